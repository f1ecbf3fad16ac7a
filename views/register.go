package views

import (
	"errors"

	"views/api"
	"views/query"
)

// checkNewView says what is wrong with a new view, whatever its query says.
func (e *Engine) checkNewView(name, text string) api.Errno {
	if !isName(name) {
		return api.ErrName
	}
	if _, taken := e.views[name]; taken {
		return api.ErrTaken
	}
	if len(e.views) >= api.MaxViews || len(text) > api.MaxQuery {
		return api.ErrLimit
	}
	return api.OK
}

// readQuery reads a query, and holds its atoms against the relations.
func (e *Engine) readQuery(text string) (*query.Query, error) {
	read, err := query.Read(text)
	if err != nil {
		return nil, err
	}
	return read, read.Check(e.arityOf)
}

func (e *Engine) arityOf(name string) (int, bool) {
	r, known := e.relations[name]
	if !known {
		return 0, false
	}
	return r.Arity(), true
}

// faultOf finds what is wrong, and where, in an error of package query.
func faultOf(err error) (api.Errno, int) {
	var fault *query.Fault
	if !errors.As(err, &fault) {
		return api.OK, 0
	}
	return fault.Wrong, fault.Place
}
