package query

import "views/api"

// mostDigits of a number: so every number fits.
const mostDigits = 9

// reader goes through a text from its start. It never steps over a byte with
// which no query goes on, so where it stops is the place of what is wrong.
type reader struct {
	text  string
	place int
}

// Read reads a text that must have the form of a query, whatever its names are.
func Read(text string) (*Query, error) {
	r := &reader{text: text}
	q := &Query{}
	if err := in("head", r.readHead(q)); err != nil {
		return nil, err
	}
	if err := in("mark", r.readMark()); err != nil {
		return nil, err
	}
	if err := in("body", r.readBody(q)); err != nil {
		return nil, err
	}
	return q, nil
}

func (r *reader) readHead(q *Query) error {
	if err := r.must('('); err != nil {
		return err
	}
	if r.take(')') {
		return nil
	}
	err := r.list("variable", api.MaxHead, func() error {
		place, letter := r.upcoming()
		if !isVariable(letter) {
			return r.fault()
		}
		r.place++
		q.Head = append(q.Head, HeadVariable{Letter: letter, Place: place})
		return nil
	})
	if err != nil {
		return err
	}
	return r.must(')')
}

func (r *reader) readMark() error {
	if err := r.must(':'); err != nil {
		return err
	}
	if r.here() != '-' {
		return r.fault()
	}
	r.place++
	return nil
}

func (r *reader) readBody(q *Query) error {
	err := r.list("atom", api.MaxAtoms, func() error {
		atom, err := r.readAtom()
		q.Body = append(q.Body, atom)
		return err
	})
	if err != nil {
		return err
	}
	r.skipBlanks()
	if r.place < len(r.text) {
		return r.fault()
	}
	return nil
}

func (r *reader) readAtom() (Atom, error) {
	place, _ := r.upcoming()
	for isLetter(r.here()) {
		r.place++
	}
	atom := Atom{Name: r.text[place:r.place], Place: place}
	if atom.Name == "" {
		return atom, in("name", r.fault())
	}
	if err := r.must('('); err != nil {
		return atom, err
	}
	err := r.list("term", api.MaxArity, func() error {
		term, err := r.readTerm()
		atom.Terms = append(atom.Terms, term)
		return err
	})
	if err != nil {
		return atom, err
	}
	return atom, r.must(')')
}

func (r *reader) readTerm() (Term, error) {
	_, first := r.upcoming()
	if isVariable(first) {
		r.place++
		return Term{Letter: first}, nil
	}
	number, err := r.readNumber()
	return Term{Number: number}, in("number", err)
}

// readNumber leaves a digit too many standing, for what comes next to stop at.
func (r *reader) readNumber() (int64, error) {
	sign := int64(1)
	if r.here() == '-' {
		sign = -1
		r.place++
	}
	number := int64(0)
	begin := r.place
	for isDigit(r.here()) && r.place < begin+mostDigits {
		number = 10*number + int64(r.here()-'0')
		r.place++
	}
	if r.place == begin {
		return 0, r.fault()
	}
	return sign * number, nil
}

// list reads an item and, for each comma behind it, one more. Behind the last
// that may be it leaves a comma standing, for what comes next to stop at.
func (r *reader) list(item string, most int, read func() error) error {
	for count := 1; ; count++ {
		if err := read(); err != nil {
			return inItem(item, count, err)
		}
		if count == most || !r.take(',') {
			return nil
		}
	}
}

// must steps over a sign that has to come next.
func (r *reader) must(sign byte) error {
	if !r.take(sign) {
		return r.fault()
	}
	return nil
}

// take steps over a sign, if it comes next.
func (r *reader) take(sign byte) bool {
	if _, next := r.upcoming(); next != sign {
		return false
	}
	r.place++
	return true
}

// upcoming is the first byte that is no blank, and its place.
func (r *reader) upcoming() (int, byte) {
	r.skipBlanks()
	return r.place, r.here()
}

func (r *reader) skipBlanks() {
	for r.here() == ' ' {
		r.place++
	}
}

// here is the byte where the reader stands. At the end it is 0, with which
// no query goes on either: so both are a fault at the reader's place.
func (r *reader) here() byte {
	if r.place == len(r.text) {
		return 0
	}
	return r.text[r.place]
}

func (r *reader) fault() error {
	return &Fault{Wrong: api.ErrSyntax, Place: r.place}
}

func isVariable(b byte) bool { return b >= 'A' && b <= 'Z' }

func isLetter(b byte) bool { return b >= 'a' && b <= 'z' }

func isDigit(b byte) bool { return b >= '0' && b <= '9' }
