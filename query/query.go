// Package query: the text of a query, read into its parts, and what may be wrong with it.
package query

import "slices"

// Query is a head, and the atoms of a body.
type Query struct {
	Head []HeadVariable
	Body []Atom
}

// HeadVariable is a variable where it stands in the head: twice there, it is two of these.
type HeadVariable struct {
	Letter byte
	Place  int
}

// Atom is a relation's name and its terms. The name is a piece of the query's
// text, so who keeps an atom longer than the text keeps a copy of it.
type Atom struct {
	Name  string
	Place int
	Terms []Term
}

// Term is the variable of that letter or, if the letter is 0, the number.
type Term struct {
	Letter byte
	Number int64
}

// letters is a set of variables, a bit for each, so that sets are compared by value.
type letters uint32

func (l letters) has(letter byte) bool { return l&(1<<(letter-'A')) != 0 }

func (l *letters) add(letter byte) { *l |= 1 << (letter - 'A') }

func (q *Query) bodyLetters() letters {
	var found letters
	for _, letter := range q.Variables() {
		found.add(letter)
	}
	return found
}

// Variables lists those of the body, each once, as they first come.
func (q *Query) Variables() []byte {
	var found []byte
	for _, atom := range q.Body {
		for _, term := range atom.Terms {
			if term.Letter != 0 && !slices.Contains(found, term.Letter) {
				found = append(found, term.Letter)
			}
		}
	}
	return found
}

// OrderFits says whether the order is empty or lists all variables of the body, each once.
func (q *Query) OrderFits(order string) bool {
	var listed letters
	for i := range len(order) {
		if !isVariable(order[i]) || listed.has(order[i]) {
			return false
		}
		listed.add(order[i])
	}
	return order == "" || listed == q.bodyLetters()
}
