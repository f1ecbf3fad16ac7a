package views_test

import (
	"fmt"
	"slices"
	"strings"
	"testing"

	"views/api"
	"views/views"
)

func wantRegister(t *testing.T, e *views.Engine, name, query, order string, want api.Errno, place int) {
	t.Helper()
	if got, at := e.Register(name, query, order); got != want || at != place {
		t.Errorf("Register(%.20q, %.60q, %.20q) = %d, %d, want %d, %d", name, query, order, got, at, want, place)
	}
}

func wantDrop(t *testing.T, e *views.Engine, name string, want api.Errno) {
	t.Helper()
	if got := e.Drop(name); got != want {
		t.Errorf("Drop(%.20q) = %d, want %d", name, got, want)
	}
}

// wantNoView asks, behind a Register that was refused, that nothing has changed (P1).
func wantNoView(t *testing.T, e *views.Engine, name, query, order string, want api.Errno, place int) {
	t.Helper()
	before := tellAll(e)
	wantRegister(t, e, name, query, order, want, place)
	wantUnread(t, e, name)
	wantDrop(t, e, name, api.ErrUnknown)
	if after := tellAll(e); after != before {
		t.Errorf("refused, yet it was %s and is %s", before, after)
	}
}

// engineFull has six views, a to f.
func engineFull(t *testing.T) *views.Engine {
	t.Helper()
	e := engineOfThree(t)
	for i := range api.MaxViews {
		wantRegister(t, e, string(rune('a'+i)), "(X):-one(X)", "", api.OK, 0)
	}
	return e
}

func TestRegisterMakesAView(t *testing.T) {
	e := engineOfThree(t)
	for _, c := range []struct{ query, order string }{
		{"(X):-one(X)", ""},
		{"(X):-one(X)", "X"},
		{"():-one(1)", ""},
		{"():-two(X,Y)", "YX"},
		{"(X,X,X,X):-two(X,X)", "X"},
		{"(A,B,C,D):-three(A,B,C),three(D,E,F),three(G,H,I),three(J,K,L)", "LKJIHGFEDCBA"},
		{" ( Z , A ) :- three ( A , -000000001 , Z ) , one ( 007 ) ", "AZ"},
	} {
		wantRegister(t, e, "v", c.query, c.order, api.OK, 0)
		wantRegister(t, e, "v", c.query, c.order, api.ErrTaken, 0)
		wantDrop(t, e, "v", api.OK)
		wantDrop(t, e, "v", api.ErrUnknown)
	}
}

func TestRegisterRefusesNoNames(t *testing.T) {
	e := engineOfThree(t)
	for _, name := range []string{
		"", "abcdefghi", "V", "v1", "v ", " v", "v\x00", "`", "{", "é", "\xff", strings.Repeat("v", 1<<20),
	} {
		wantNoView(t, e, name, "(X):-one(X)", "", api.ErrName, 0)
		wantNoView(t, e, name, "?", "?", api.ErrName, 0)
	}
	for _, name := range []string{"a", "z", "abcdefgh", "zzzzzzzz"} {
		wantRegister(t, e, name, "(X):-one(X)", "", api.OK, 0)
	}
}

func TestRegisterTakenAndFull(t *testing.T) {
	e := engineFull(t)
	long := strings.Repeat(" ", api.MaxQuery+1)
	for _, query := range []string{"(X):-one(X)", "?", long} {
		wantRegister(t, e, "f", query, "?", api.ErrTaken, 0)
		wantNoView(t, e, "g", query, "?", api.ErrLimit, 0)
		wantRegister(t, e, "A", query, "?", api.ErrName, 0)
	}
	wantDrop(t, e, "c", api.OK)
	wantNoView(t, e, "g", "?", "", api.ErrSyntax, 0)
	wantRegister(t, e, "g", "(X):-one(X)", "", api.OK, 0)
	wantNoView(t, e, "c", "(X):-one(X)", "", api.ErrLimit, 0)
}

func TestRegisterLongQueries(t *testing.T) {
	e := engineOfThree(t)
	const query = "(X):-one(X)"
	full := query + strings.Repeat(" ", api.MaxQuery-len(query))
	wantRegister(t, e, "v", full, "", api.OK, 0)
	wantRegister(t, e, "v", full+" ", "", api.ErrTaken, 0)
	wantNoView(t, e, "w", full+" ", "", api.ErrLimit, 0)
	wantNoView(t, e, "w", "?"+full, "", api.ErrLimit, 0)
	wantNoView(t, e, "w", strings.Repeat("(", 1<<20), "", api.ErrLimit, 0)
	// At the limit the last byte still counts, and so does the end behind it.
	wantNoView(t, e, "w", full[:api.MaxQuery-1]+"x", "", api.ErrSyntax, api.MaxQuery-1)
	wantNoView(t, e, "w", "(X):-"+strings.Repeat("a", api.MaxQuery-5), "", api.ErrSyntax, api.MaxQuery)
	wantNoView(t, e, "w", "(X):-"+strings.Repeat("a", api.MaxQuery-8)+"(X)", "", api.ErrName, 5)
}

func TestRegisterSyntax(t *testing.T) {
	e := engineOfThree(t)
	for _, c := range []struct {
		query string
		place int
	}{
		{"", 0}, {" ", 1}, {"   ", 3}, {"X:-one(X)", 0}, {" X", 1}, {":-one(X)", 0},
		{"(", 1}, {"( ", 2}, {"(x):-one(X)", 1}, {"(1):-one(X)", 1}, {"(,X):-one(X)", 1}, {"(X", 2},
		{"(XY):-one(X)", 2}, {"(X Y):-one(X)", 3}, {"(X,):-one(X)", 3}, {"(X,,X):-one(X)", 3}, {"((X", 1},
		{"(A,B,C,D):-one(1),", 18}, {"(X,X,X,X,X):-one(X)", 8}, {"(X,X,X,X , ", 9},
		{"(X)", 3}, {"(X)-one(X)", 3}, {"(X):one(X)", 4}, {"(X): -one(X)", 4}, {"(X):", 4}, {"(X)::-", 4},
		{"(X):-", 5}, {"(X):- ", 6}, {"(X):-One(X)", 5}, {"(X):-(X)", 5}, {"(X):-,one(X)", 5},
		{"(X):-oNe(X)", 6}, {"(X):-o ne(X)", 7}, {"(X):-one", 8}, {"(X):-one1(X)", 8}, {"(X):-one)", 8},
		{"(X):-one(", 9}, {"(X):-one()", 9}, {"(X):-one( )", 10}, {"(X):-one(x)", 9}, {"(X):-one(,X)", 9},
		{"(X):-one(X", 10}, {"(X):-one(XX)", 10}, {"(X):-one(X,", 11}, {"(X):-one(X,)", 11}, {"(X):-one(X X)", 11},
		{"(X):-one(-)", 10}, {"(X):-one(- 1)", 10}, {"(X):-one(--1)", 10}, {"(X):-one(-X)", 10}, {"(X):-one(+1)", 9},
		{"(X):-one(1-)", 10}, {"(X):-one(1 2)", 11}, {"(X):-one(1X)", 10}, {"(X):-one(X1)", 10}, {"(X):-one(1.5)", 10},
		{"(X):-one(1234567890)", 18}, {"(X):-one(-1234567890)", 19}, {"(X):-one(0000000001)", 18},
		{"(X):-one(X,X,X,X)", 14}, {"(X):-one(X))", 11}, {"(X):-one(X)one(X)", 11}, {"(X):-one(X) one(X)", 12},
		{"(X):-one(X),", 12}, {"(X):-one(X),,", 12}, {"(X):-one(X);", 11}, {"(X):-one(X).", 11},
		{"(X):-a(X),a(X),a(X),a(X),a(X)", 24}, {"(X):-a(X),a(X),a(X),a(X) ,", 25},
		{"(X)\t:-one(X)", 3}, {"(X):-one(X)\n", 11}, {"(X):-one(X)\x00", 11}, {"\x00", 0}, {"(X):-one(\xff)", 9}, {"(É", 1},
	} {
		wantNoView(t, e, "v", c.query, "", api.ErrSyntax, c.place)
		wantNoView(t, e, "v", c.query, "?", api.ErrSyntax, c.place)
	}
}

// Where the form is wrong it is nothing else, though that may stand ahead of it.
func TestRegisterSyntaxAheadOfAllElse(t *testing.T) {
	e := engineOfThree(t)
	wantNoView(t, e, "v", "(Q):-q(X", "", api.ErrSyntax, 8)
	wantNoView(t, e, "v", "(Q):-abcdefghi(X),", "", api.ErrSyntax, 18)
	wantNoView(t, e, "v", "(Q):-one(X,X) x", "", api.ErrSyntax, 14)
}

func TestRegisterWrongParts(t *testing.T) {
	e := engineOfThree(t)
	for _, c := range []struct {
		query string
		want  api.Errno
		place int
	}{
		{"(X):-abcdefghi(X)", api.ErrName, 5},
		{"(X):-one(X),abcdefghi(X,X,X)", api.ErrName, 12},
		{"(X):-q(X)", api.ErrUnknown, 5},
		{"(X):-abcdefgh(X)", api.ErrUnknown, 5},
		{"(X):-on(X)", api.ErrUnknown, 5},
		{"(X):- onee(X)", api.ErrUnknown, 6},
		{"(X):-one(X,1)", api.ErrArity, 5},
		{"(X):-two(X)", api.ErrArity, 5},
		{"(X):-two(X,X,X)", api.ErrArity, 5},
		{"(X):-three(X,X)", api.ErrArity, 5},
		{"(X):-one(X),one(X),one(X), two(X)", api.ErrArity, 27},
		{"(Y):-one(X)", api.ErrHead, 1},
		{"(X,Y):-one(X)", api.ErrHead, 3},
		{"( X , X , Y , Z ):-one(X)", api.ErrHead, 10},
		{"(X):-one(5)", api.ErrHead, 1},
		{"(X,Y):-q(X)", api.ErrHead, 3},
		{"(X,Y):-q(X),one(Y,Y)", api.ErrUnknown, 7},
		{"(X,Y):-one(Y,Y),q(X)", api.ErrArity, 7},
	} {
		wantNoView(t, e, "v", c.query, "", c.want, c.place)
		wantNoView(t, e, "v", c.query, "?", c.want, c.place)
	}
}

func TestRegisterOrder(t *testing.T) {
	e := engineOfThree(t)
	for _, c := range []struct{ query, order string }{
		{"(X):-one(X)", "XX"}, {"(X):-one(X)", "Y"}, {"(X):-one(X)", "x"}, {"(X):-one(X)", " "}, {"(X):-one(X)", "X "},
		{"(X):-two(X,Y)", "X"}, {"(X):-two(X,Y)", "XYZ"}, {"(X):-two(X,Y)", "XYX"}, {"(X):-two(X,Y)", "X,Y"},
		{"(X):-two(X,Y)", "YY"}, {"(X):-two(X,Y)", "XZ"}, {"():-one(1)", "X"}, {"():-one(1)", "1"},
		{"(X):-one(X)", strings.Repeat("X", 1<<20)}, {"(X):-one(X)", "X\x00"}, {"(X):-one(X)", "\xff"},
	} {
		wantNoView(t, e, "v", c.query, c.order, api.ErrOrder, 0)
	}
	for _, order := range []string{"", "XYZ", "XZY", "YXZ", "YZX", "ZXY", "ZYX"} {
		wantRegister(t, e, "v", "(X):-three(X,Y,Z)", order, api.OK, 0)
		wantDrop(t, e, "v", api.OK)
	}
}

func TestRegisterExamples(t *testing.T) {
	e := views.New()
	wantCreate(t, e, "r", 2, api.OK)
	wantCreate(t, e, "s", 1, api.OK)
	wantRegister(t, e, "v", "(X,Z):-r(X,Y),r(Y,Z)", "", api.OK, 0)
	wantRegister(t, e, "t", "( X ) :- r(X,X), s(X)", "X", api.OK, 0)
	wantRegister(t, e, "u", "(X):-r(X,3)", "", api.OK, 0)
	wantRegister(t, e, "n", "():-r(X,Y)", "", api.OK, 0)
	wantNoView(t, e, "w", "(X):-q(X)", "", api.ErrUnknown, 5)
	wantNoView(t, e, "w", "(X):-r(X)", "", api.ErrArity, 5)
	wantNoView(t, e, "w", "(Y):-s(X)", "", api.ErrHead, 1)
	wantNoView(t, e, "w", "(X):-s(X)", "XX", api.ErrOrder, 0)
	wantNoView(t, e, "w", "(X):-s(x)", "", api.ErrSyntax, 7)
	wantNoView(t, e, "w", "(X)-s(X)", "", api.ErrSyntax, 3)
	wantNoView(t, e, "w", "(X):-s(X", "", api.ErrSyntax, 8)
	wantNoView(t, e, "w", "(X):-s(X),", "", api.ErrSyntax, 10)
	wantNoView(t, e, "w", "(X):-s()", "", api.ErrSyntax, 7)
	wantNoView(t, e, "w", "X:-s(X)", "", api.ErrSyntax, 0)
	wantNoView(t, e, "w", "(X):-abcdefghi(X)", "", api.ErrName, 5)
}

func TestRegisterSeesRelationsOfItsEngine(t *testing.T) {
	e := views.New()
	wantNoView(t, e, "v", "(X):-one(X)", "", api.ErrUnknown, 5)
	wantCreate(t, e, "one", 2, api.OK)
	wantNoView(t, e, "v", "(X):-one(X)", "", api.ErrArity, 5)
	wantRegister(t, e, "v", "(X):-one(X,X)", "", api.OK, 0)
	// A view is no relation that a query could name.
	wantNoView(t, e, "w", "(X):-v(X)", "", api.ErrUnknown, 5)
}

func TestRefusedViewsTakeNoRoom(t *testing.T) {
	e := engineOfThree(t)
	for range 2 * api.MaxViews {
		wantRegister(t, e, "v", "?", "", api.ErrSyntax, 0)
		wantRegister(t, e, "v", "(X):-q(X)", "", api.ErrUnknown, 5)
		wantRegister(t, e, "v", "(X):-one(X)", "?", api.ErrOrder, 0)
	}
	for i := range api.MaxViews {
		wantRegister(t, e, string(rune('a'+i)), "(X):-one(X)", "", api.OK, 0)
	}
}

func TestViewsAndRelationsMayHaveOneName(t *testing.T) {
	e := engineOfThree(t)
	wantApply(t, e, []api.Entry{entry("one", 2, 5)}, api.OK, 0)
	wantRegister(t, e, "one", "(X):-one(X)", "", api.OK, 0)
	wantCreate(t, e, "one", 1, api.ErrTaken)
	wantRegister(t, e, "v", "(X):-one(X)", "", api.OK, 0)
	wantCreate(t, e, "v", 1, api.OK)
	wantDrop(t, e, "one", api.OK)
	wantRows(t, e, "one", "[{[5] 2}]")
	wantDrop(t, e, "two", api.ErrUnknown)
	wantRows(t, e, "two", "[]")
	wantRegister(t, e, "w", "(X):-one(X),v(X)", "", api.OK, 0)
}

func TestDrop(t *testing.T) {
	e := engineFull(t)
	for _, name := range []string{"", "g", "A", "a ", "aa", "one", "\xff", strings.Repeat("a", 1<<20)} {
		wantDrop(t, e, name, api.ErrUnknown)
	}
	for _, name := range []string{"d", "a", "f", "b", "e", "c"} {
		wantRegister(t, e, name, "(X):-one(X)", "", api.ErrTaken, 0)
		wantDrop(t, e, name, api.OK)
		wantDrop(t, e, name, api.ErrUnknown)
		wantRegister(t, e, name, "(X,X):-one(X)", "", api.OK, 0)
		wantDrop(t, e, name, api.OK)
	}
	for i := range api.MaxViews {
		wantRegister(t, e, string(rune('g'+i)), "(X):-one(X)", "", api.OK, 0)
	}
	wantNoView(t, e, "a", "(X):-one(X)", "", api.ErrLimit, 0)
	wantDrop(t, views.New(), "a", api.ErrUnknown)
}

func TestViewsOfOneEngineAreNotInAnother(t *testing.T) {
	a, b := engineFull(t), engineOfThree(t)
	wantDrop(t, b, "a", api.ErrUnknown)
	wantRegister(t, b, "a", "(X):-one(X)", "", api.OK, 0)
	wantRegister(t, b, "g", "(X):-one(X)", "", api.OK, 0)
	wantDrop(t, b, "a", api.OK)
	wantDrop(t, a, "g", api.ErrUnknown)
	wantDrop(t, a, "a", api.OK)
}

// drawn is a query that was put together at random, with all that is wrong with it.
type drawn struct {
	text   string
	body   string // its variables, each once
	faults []fault
}

type fault struct {
	place int
	wrong api.Errno
}

func (d *drawn) blank(draw func(int) int) {
	d.text += strings.Repeat(" ", draw(3)*draw(2))
}

func (d *drawn) drawAtom(draw func(int) int) {
	d.blank(draw)
	name := []string{"one", "two", "three", "one", "two", "three", "q", "abcdefghi"}[draw(8)]
	arity := slices.Index([]string{"", "one", "two", "three"}, name)
	place, terms := len(d.text), 1+draw(api.MaxArity)
	if arity > 0 && draw(4) > 0 {
		terms = arity
	}
	switch {
	case name == "abcdefghi":
		d.faults = append(d.faults, fault{place, api.ErrName})
	case arity < 0:
		d.faults = append(d.faults, fault{place, api.ErrUnknown})
	case arity != terms:
		d.faults = append(d.faults, fault{place, api.ErrArity})
	}
	d.text += name + "("
	for i := range terms {
		if i > 0 {
			d.text += ","
		}
		d.blank(draw)
		term := []string{"X", "Y", "Z", "5", "-07"}[draw(5)]
		d.text += term
		if term >= "A" && !strings.Contains(d.body, term) {
			d.body += term
		}
	}
	d.text += ")"
}

func drawRegister(draw func(int) int) drawn {
	d := drawn{text: "("}
	head, places := "", []int{}
	for i := range draw(api.MaxHead + 1) {
		if i > 0 {
			d.text += ","
		}
		d.blank(draw)
		head += string(rune('X' + draw(3)))
		places = append(places, len(d.text))
		d.text += head[i:]
	}
	d.text += "):-"
	for i := range 1 + draw(api.MaxAtoms) {
		if i > 0 {
			d.text += ","
		}
		d.drawAtom(draw)
	}
	for i := range head {
		if !strings.Contains(d.body, head[i:i+1]) {
			d.faults = append(d.faults, fault{places[i], api.ErrHead})
		}
	}
	return d
}

func TestRegisterTellsWhatIsWrongAtTheLeastPlace(t *testing.T) {
	draw := drawFrom(3)
	seen := map[api.Errno]int{}
	e := engineOfThree(t)
	for range 5000 {
		d := drawRegister(draw)
		order := []string{"", d.body, "XYZ", "Y"}[draw(4)]
		least := fault{}
		if order != "" && (len(order) != len(d.body) || strings.Trim(order, d.body) != "") {
			least.wrong = api.ErrOrder
		}
		for i, f := range d.faults {
			if i == 0 || f.place < least.place {
				least = f
			}
		}
		seen[least.wrong]++
		wantRegister(t, e, "v", d.text, order, least.wrong, least.place)
		e.Drop("v")
		if t.Failed() {
			return
		}
	}
	for _, wrong := range []api.Errno{api.OK, api.ErrName, api.ErrUnknown, api.ErrArity, api.ErrHead, api.ErrOrder} {
		if seen[wrong] < 100 {
			t.Errorf("the queries are too much alike: %s", fmt.Sprint(seen))
		}
	}
}
