// Package join: the join of a query's atoms, variable by variable.
package join

import (
	"cmp"
	"slices"
	"strings"

	"views/index"
	"views/query"
)

// Plan is a query, put the way a join goes through it: a step for each variable.
type Plan struct {
	keys    []index.Key // for each atom
	numbers [][]int64   // for each atom: the terms that are numbers
	steps   []step
}

// step is one variable.
type step struct {
	uses   []use
	places []int // where it stands in the head
}

// use is an atom that has the variable, in so many of its columns.
type use struct {
	atom    int
	columns int
}

// NewPlan makes the plan of a query that is right, with an order of its
// variables that is right. It keeps nothing of either.
func NewPlan(q *query.Query, order string) *Plan {
	if order == "" {
		order = chooseOrder(q)
	}
	p := &Plan{}
	for _, atom := range q.Body {
		p.keys = append(p.keys, keyOf(atom, order))
		p.numbers = append(p.numbers, numbersOf(atom))
	}
	for i := range len(order) {
		p.steps = append(p.steps, stepOf(q, order[i]))
	}
	return p
}

// Keys says for each atom which index the join goes through there.
func (p *Plan) Keys() []index.Key { return p.keys }

// chooseOrder takes the variables of more atoms first: the more atoms must have
// a number, the fewer are left.
func chooseOrder(q *query.Query) string {
	order := q.Variables()
	slices.SortStableFunc(order, func(a, b byte) int {
		return cmp.Compare(len(usesOf(q, b)), len(usesOf(q, a)))
	})
	return string(order)
}

// keyOf puts the columns with numbers first and the others as the order has
// their variables. A number has no letter, so its place in the order is -1.
func keyOf(atom query.Atom, order string) index.Key {
	key := index.Key{Relation: strings.Clone(atom.Name)}
	for i := range key.Columns {
		key.Columns[i] = i
	}
	slices.SortStableFunc(key.Columns[:len(atom.Terms)], func(a, b int) int {
		return cmp.Compare(
			strings.IndexByte(order, atom.Terms[a].Letter),
			strings.IndexByte(order, atom.Terms[b].Letter))
	})
	return key
}

func numbersOf(atom query.Atom) []int64 {
	var numbers []int64
	for _, term := range atom.Terms {
		if term.Letter == 0 {
			numbers = append(numbers, term.Number)
		}
	}
	return numbers
}

func stepOf(q *query.Query, letter byte) step {
	made := step{uses: usesOf(q, letter)}
	for i, variable := range q.Head {
		if variable.Letter == letter {
			made.places = append(made.places, i)
		}
	}
	return made
}

func usesOf(q *query.Query, letter byte) []use {
	var uses []use
	for i, atom := range q.Body {
		found := use{atom: i}
		for _, term := range atom.Terms {
			if term.Letter == letter {
				found.columns++
			}
		}
		if found.columns > 0 {
			uses = append(uses, found)
		}
	}
	return uses
}
