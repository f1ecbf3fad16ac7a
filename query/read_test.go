package query_test

import (
	"errors"
	"fmt"
	"regexp"
	"strings"
	"testing"

	"views/api"
	"views/query"
)

// tell writes a query out in a form of its own, with the places.
func tell(q *query.Query) string {
	text := ""
	for _, variable := range q.Head {
		text += fmt.Sprintf("%c@%d ", variable.Letter, variable.Place)
	}
	text += "<-"
	for _, atom := range q.Body {
		text += fmt.Sprintf(" %s@%d", atom.Name, atom.Place)
		for _, term := range atom.Terms {
			if term.Letter != 0 {
				text += fmt.Sprintf("/%c", term.Letter)
			} else {
				text += fmt.Sprintf("/%d", term.Number)
			}
		}
	}
	return text
}

func TestReadTellsTheParts(t *testing.T) {
	for _, c := range []struct{ text, want string }{
		{"(X,Z):-r(X,Y),r(Y,Z)", "X@1 Z@3 <- r@7/X/Y r@14/Y/Z"},
		{"():-r(1)", "<- r@4/1"},
		{"(A,Z,A,A):-a(Z),b(Z),c(Z),z(A)", "A@1 Z@3 A@5 A@7 <- a@11/Z b@16/Z c@21/Z z@26/A"},
		{"():-r(-5,007,-0)", "<- r@4/-5/7/0"},
		{"():-r(999999999,-999999999,000000000)", "<- r@4/999999999/-999999999/0"},
		{"  (  X  ,  Y  )  :-  r  (  X  ,  -1  )  ,  s  (  2  )  ", "X@5 Y@11 <- r@21/X/-1 s@43/2"},
		{" ( ) :- abc ( Q ) ", "<- abc@8/Q"},
		{"():-abcdefghijklmnopqrstuvwxyz(X)", "<- abcdefghijklmnopqrstuvwxyz@4/X"},
	} {
		q, err := query.Read(c.text)
		if err != nil {
			t.Errorf("Read(%q): %v", c.text, err)
			continue
		}
		if got := tell(q); got != c.want {
			t.Errorf("Read(%q) = %s, want %s", c.text, got, c.want)
		}
	}
}

func TestReadIsWrappedByWhatWasRead(t *testing.T) {
	for _, c := range []struct{ text, want string }{
		{"X", "head: error 5 at place 0"},
		{"(X,1", "head: variable 2: error 5 at place 3"},
		{"(X)-", "mark: error 5 at place 3"},
		{"(X):-1", "body: atom 1: name: error 5 at place 5"},
		{"(X):-r(X),s[", "body: atom 2: error 5 at place 11"},
		{"(X):-r(X),s(X,-X", "body: atom 2: term 2: number: error 5 at place 15"},
		{"(X):-r(X).", "body: error 5 at place 9"},
	} {
		q, err := query.Read(c.text)
		if q != nil || err == nil || err.Error() != c.want {
			t.Errorf("Read(%q) = %v, %v, want %s", c.text, q, err, c.want)
		}
		var fault *query.Fault
		if !errors.As(err, &fault) || fault.Wrong != api.ErrSyntax {
			t.Errorf("Read(%q): no fault of the form in %v", c.text, err)
		}
	}
}

func listOf(item string, most int) string {
	return fmt.Sprintf(`%s(?: *, *%s){0,%d}`, item, item, most-1)
}

// form is the document's, of whole queries.
func form() *regexp.Regexp {
	atom := `[a-z]+ *\( *` + listOf(`(?:[A-Z]|-?[0-9]{1,9})`, api.MaxArity) + ` *\)`
	head := `\( *(?:` + listOf(`[A-Z]`, api.MaxHead) + `)? *\)`
	return regexp.MustCompile(`^ *` + head + ` *:- *` + listOf(atom, api.MaxAtoms) + ` *$`)
}

// beginsQuery holds for texts that one of the ways to end a query makes a whole query of:
// one for each place at which a query may be broken off.
func beginsQuery(form *regexp.Regexp, text string) bool {
	for _, end := range []string{
		"():-a(X)", "):-a(X)", "X):-a(X)", ":-a(X)", "-a(X)", "a(X)", "(X)", "X)", "1)", ")", "",
	} {
		if form.MatchString(text + end) {
			return true
		}
	}
	return false
}

// wantPlace is the document's place of what is wrong with the form, or -1.
func wantPlace(form *regexp.Regexp, text string) int {
	if form.MatchString(text) {
		return -1
	}
	for i := range len(text) {
		if !beginsQuery(form, text[:i+1]) {
			return i
		}
	}
	return len(text)
}

func placeOf(err error) int {
	var fault *query.Fault
	if errors.As(err, &fault) {
		return fault.Place
	}
	return -1
}

func drawing(state uint64) func(int) int {
	return func(n int) int {
		state = state*6364136223846793005 + 1442695040888963407
		return int(state>>33) % n
	}
}

func pick(draw func(int) int, of ...string) string { return of[draw(len(of))] }

// drawList has now and then an item more than may be, or none.
func drawList(draw func(int) int, most int, item func() string) string {
	var items []string
	for range draw(most+1) + draw(2) {
		items = append(items, item())
	}
	return strings.Join(items, pick(draw, ",", ", ", " ,", " , "))
}

func drawQuery(draw func(int) int) string {
	variable := func() string { return pick(draw, "A", "X", "Y", "Z") }
	term := func() string { return pick(draw, "A", "Z", "0", "-7", "000000012", "-123456789", "1234567890") }
	blank := func() string { return pick(draw, "", "", "", " ", "  ") }
	atom := func() string {
		return pick(draw, "a", "zz", "abcdefghi") + blank() + "(" + drawList(draw, api.MaxArity, term) + ")"
	}
	return blank() + "(" + drawList(draw, api.MaxHead, variable) + ")" + blank() + ":-" + blank() +
		drawList(draw, api.MaxAtoms, atom) + blank()
}

// spoil changes, adds or takes away a byte, or breaks the text off.
func spoil(draw func(int) int, text string) string {
	at := draw(len(text))
	strange := pick(draw, "(", ")", ",", ":", "-", " ", "x", "X", "1", "@", "[", "`", "{", "/", "\x00", "\xff", "\t")
	switch draw(4) {
	case 0:
		return text[:at] + strange + text[at+1:]
	case 1:
		return text[:at] + strange + text[at:]
	case 2:
		return text[:at] + text[at+1:]
	}
	return text[:at]
}

func TestReadStopsAtTheFirstByteWithWhichNoQueryBegins(t *testing.T) {
	draw, form := drawing(11), form()
	good, bad := 0, 0
	for range 6000 {
		text := drawQuery(draw)
		for range draw(3) {
			if text != "" {
				text = spoil(draw, text)
			}
		}
		want := wantPlace(form, text)
		if want < 0 {
			good++
		} else {
			bad++
		}
		q, err := query.Read(text)
		if got := placeOf(err); got != want || (q == nil) != (want >= 0) {
			t.Fatalf("Read(%q): place %d, want %d", text, got, want)
		}
	}
	if good < 500 || bad < 3000 {
		t.Errorf("the texts are too much alike: %d good, %d bad", good, bad)
	}
}

// Every byte at every place of a query that has all its parts, and every beginning of it.
func TestReadEveryByteEverywhere(t *testing.T) {
	const text = " ( A , Z ) :- ab ( A , -12 ) , z ( Z ) "
	form := form()
	for at := range len(text) {
		if got := placeOf(readError(text[:at])); got != wantPlace(form, text[:at]) {
			t.Errorf("Read(%q): place %d", text[:at], got)
		}
		for b := range 256 {
			changed := text[:at] + string([]byte{byte(b)}) + text[at+1:]
			if got, want := placeOf(readError(changed)), wantPlace(form, changed); got != want {
				t.Errorf("Read(%q): place %d, want %d", changed, got, want)
			}
		}
	}
}

func readError(text string) error {
	_, err := query.Read(text)
	return err
}
