package query

import (
	"strconv"

	"views/api"
)

// Fault is what is wrong with a query, and where. Every error of this package
// wraps one: errors.As finds it.
type Fault struct {
	Wrong api.Errno
	Place int
}

func (f *Fault) Error() string {
	return "error " + strconv.Itoa(int(f.Wrong)) + " at place " + strconv.Itoa(f.Place)
}

// partError wraps an error by the part of the query in which it came up.
type partError struct {
	part string
	err  error
}

func (p *partError) Error() string { return p.part + ": " + p.err.Error() }

func (p *partError) Unwrap() error { return p.err }

// in wraps an error, if there is one.
func in(part string, err error) error {
	if err == nil {
		return nil
	}
	return &partError{part: part, err: err}
}

// inItem wraps an error by an item of a list; items count from 1.
func inItem(item string, number int, err error) error {
	return &partError{part: item + " " + strconv.Itoa(number), err: err}
}
