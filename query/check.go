package query

import "views/api"

// Check says what is wrong with a query that has the form, at the least place:
// the head stands ahead of the body, so it comes first. arityOf says how many
// columns a relation has, if there is one of that name.
func (q *Query) Check(arityOf func(name string) (int, bool)) error {
	if err := in("head", q.checkHead()); err != nil {
		return err
	}
	return in("body", q.checkBody(arityOf))
}

func (q *Query) checkHead() error {
	found := q.bodyLetters()
	for i, variable := range q.Head {
		if !found.has(variable.Letter) {
			return inItem("variable", i+1, &Fault{Wrong: api.ErrHead, Place: variable.Place})
		}
	}
	return nil
}

func (q *Query) checkBody(arityOf func(name string) (int, bool)) error {
	for i, atom := range q.Body {
		if wrong := atom.check(arityOf); wrong != api.OK {
			return inItem("atom", i+1, &Fault{Wrong: wrong, Place: atom.Place})
		}
	}
	return nil
}

func (a Atom) check(arityOf func(name string) (int, bool)) api.Errno {
	if len(a.Name) > api.MaxName {
		return api.ErrName
	}
	arity, known := arityOf(a.Name)
	if !known {
		return api.ErrUnknown
	}
	if len(a.Terms) != arity {
		return api.ErrArity
	}
	return api.OK
}
