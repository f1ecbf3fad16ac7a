package views_test

import (
	"fmt"
	"math"
	"slices"
	"strings"
	"testing"

	"views/api"
	"views/views"
)

func wantUnread(t *testing.T, e *views.Engine, view string) {
	t.Helper()
	if rows, wrong := e.Read(view); len(rows) != 0 || wrong != api.ErrUnknown {
		t.Errorf("Read(%.20q) = %v, %d", view, rows, wrong)
	}
}

func TestReadUnknown(t *testing.T) {
	e := engineFull(t)
	wantApply(t, e, []api.Entry{entry("one", 1, 1)}, api.OK, 0)
	for _, name := range []string{"", "g", "A", "aa", " a", "a ", "one", "\xff", strings.Repeat("a", 1<<20)} {
		wantUnread(t, e, name)
	}
	wantUnread(t, views.New(), "a")
}

func TestReadExamples(t *testing.T) {
	e := views.New()
	wantCreate(t, e, "r", 2, api.OK)
	wantCreate(t, e, "s", 1, api.OK)
	wantRegister(t, e, "v", "(X,Z):-r(X,Y),r(Y,Z)", "", api.OK, 0)
	wantRead(t, e, "v", "[]")
	wantApply(t, e, []api.Entry{entry("r", 1, 1, 2), entry("r", 2, 2, 3)}, api.OK, 0)
	wantRead(t, e, "v", "[{[1 3] 2}]")
	wantApply(t, e, []api.Entry{entry("r", 1, 2, 2)}, api.OK, 0)
	wantRead(t, e, "v", "[{[1 2] 1} {[1 3] 2} {[2 2] 1} {[2 3] 2}]")
	wantApply(t, e, []api.Entry{entry("r", -1, 1, 2)}, api.OK, 0)
	wantRead(t, e, "v", "[{[2 2] 1} {[2 3] 2}]")
	wantRegister(t, e, "t", "( X ) :- r(X,X), s(X)", "X", api.OK, 0)
	wantRead(t, e, "t", "[]")
	wantApply(t, e, []api.Entry{entry("s", 5, 2), entry("s", 5, 3)}, api.OK, 0)
	wantRead(t, e, "t", "[{[2] 5}]")
	wantRegister(t, e, "u", "(X):-r(X,3)", "", api.OK, 0)
	wantRead(t, e, "u", "[{[2] 2}]")
	wantRegister(t, e, "n", "():-r(X,Y)", "", api.OK, 0)
	wantRead(t, e, "n", "[{[] 3}]")
	wantApply(t, e, []api.Entry{entry("r", -3, 7, 7)}, api.OK, 0)
	wantRead(t, e, "n", "[]")
}

// Each kind of query, registered ahead of the rows and behind them (P10).
var kinds = []struct{ query, want string }{
	{"(X):-one(X)", "[{[1] 2} {[2] -3} {[3] 5}]"},
	{"(X,Y):-two(X,Y)", "[{[1 2] 1} {[1 3] 10} {[2 2] 100} {[3 1] -1}]"},
	{"(Y,X):-two(X,Y)", "[{[1 3] -1} {[2 1] 1} {[2 2] 100} {[3 1] 10}]"},
	{"(X):-two(X,Y)", "[{[1] 11} {[2] 100} {[3] -1}]"},
	{"(Y):-two(X,Y)", "[{[1] -1} {[2] 101} {[3] 10}]"},
	// No variable in the head: one list, the empty one.
	{"():-two(X,Y)", "[{[] 110}]"},
	{"():-one(2)", "[{[] -3}]"},
	{"():-one(4)", "[]"},
	{"():-one(2),two(2,2),three(1,2,3)", "[{[] -2100}]"},
	{"():-one(2),two(2,2),three(1,2,4)", "[]"},
	// A variable twice in the head counts twice.
	{"(X,X):-one(X)", "[{[1 1] 2} {[2 2] -3} {[3 3] 5}]"},
	{"(Y,X,Y,X):-two(X,Y)", "[{[1 3 1 3] -1} {[2 1 2 1] 1} {[2 2 2 2] 100} {[3 1 3 1] 10}]"},
	{"(X,X,X,X):-one(X),two(X,X)", "[{[2 2 2 2] -300}]"},
	// One relation at several atoms.
	{"(X):-one(X),one(X)", "[{[1] 4} {[2] 9} {[3] 25}]"},
	{"(X):-one(X),one(X),one(X),one(X)", "[{[1] 16} {[2] 81} {[3] 625}]"},
	{"(X,Z):-two(X,Y),two(Y,Z)", "[{[1 1] -10} {[1 2] 100} {[2 2] 10000} {[3 2] -1} {[3 3] -10}]"},
	{"(X):-two(X,Y),two(Y,X)", "[{[1] -10} {[2] 10000} {[3] -10}]"},
	{"():-one(X),one(Y)", "[{[] 16}]"},
	// A variable twice in an atom.
	{"(X):-two(X,X)", "[{[2] 100}]"},
	{"(X):-three(X,X,X)", "[{[2] 11}]"},
	{"(X,Y):-three(X,Y,X)", "[{[1 2] 13} {[2 2] 11}]"},
	{"(X,Y):-three(Y,X,X)", "[{[2 2] 11}]"},
	// Numbers as terms, with noughts and a sign too.
	{"(X):-two(1,X)", "[{[2] 1} {[3] 10}]"},
	{"(X):-two(X,002)", "[{[1] 1} {[2] 100}]"},
	{"(X):-three(1,X,3),one(1)", "[{[2] 14}]"},
	{"(X):-three(1,2,X)", "[{[1] 13} {[3] 7}]"},
	{"(Z,X):-three(X,-000000005,Z)", "[{[999999999 -999999999] 17}]"},
	{"(Y):-three(-999999999,Y,999999999)", "[{[-5] 17}]"},
	{"(X):-one(X),two(-0,X)", "[]"},
	// Variables that bind several atoms, and atoms that nothing binds.
	{"(X,Y,Z):-three(X,Y,Z),one(X),one(Y),one(Z)", "[{[1 2 1] -156} {[1 2 3] -210} {[2 2 2] -297}]"},
	{"(X,Y):-one(X),two(Y,2)", "[{[1 1] 2} {[1 2] 200} {[2 1] -3} {[2 2] -300} {[3 1] 5} {[3 2] 500}]"},
	{"(W):-two(X,Y),two(Y,Z),two(Z,W)", "[{[1] 10} {[2] 1009890} {[3] -100}]"},
}

func kindsBatch() []api.Entry {
	return []api.Entry{
		entry("one", 2, 1), entry("one", -3, 2), entry("one", 5, 3),
		entry("two", 1, 1, 2), entry("two", 10, 1, 3), entry("two", 100, 2, 2), entry("two", -1, 3, 1),
		entry("three", 7, 1, 2, 3), entry("three", 11, 2, 2, 2), entry("three", 13, 1, 2, 1),
		entry("three", 17, -999999999, -5, 999999999),
	}
}

func TestReadKinds(t *testing.T) {
	for _, c := range kinds {
		e := engineOfThree(t)
		wantRegister(t, e, "a", c.query, "", api.OK, 0)
		wantRead(t, e, "a", "[]")
		wantApply(t, e, kindsBatch(), api.OK, 0)
		wantRegister(t, e, "b", c.query, "", api.OK, 0)
		wantRead(t, e, "a", c.want)
		wantRead(t, e, "b", c.want)
		taken := kindsBatch()
		for i := range taken {
			taken[i].Weight *= -1
		}
		wantApply(t, e, taken, api.OK, 0)
		wantRead(t, e, "a", "[]")
		wantRead(t, e, "b", "[]")
		if t.Failed() {
			t.Fatalf("with %s", c.query)
		}
	}
}

// A batch in parts, entry by entry, and turned round (P10).
func TestReadDoesNotTellTheWayThere(t *testing.T) {
	for _, c := range kinds {
		whole, parts, turned := engineOfThree(t), engineOfThree(t), engineOfThree(t)
		for _, e := range []*views.Engine{whole, parts, turned} {
			wantRegister(t, e, "v", c.query, "", api.OK, 0)
		}
		batch := append(kindsBatch(), entry("two", 8, 1, 2), entry("one", 4, 1), entry("one", -4, 1), entry("two", -8, 1, 2))
		wantApply(t, whole, batch, api.OK, 0)
		for _, x := range batch {
			wantApply(t, parts, []api.Entry{x}, api.OK, 0)
		}
		slices.Reverse(batch)
		wantApply(t, turned, batch, api.OK, 0)
		for _, e := range []*views.Engine{whole, parts, turned} {
			wantRead(t, e, "v", c.want)
		}
		if t.Failed() {
			t.Fatalf("with %s", c.query)
		}
	}
}

func orders(letters string) []string {
	if letters == "" {
		return []string{""}
	}
	var all []string
	for i := range letters {
		for _, rest := range orders(letters[:i] + letters[i+1:]) {
			all = append(all, letters[i:i+1]+rest)
		}
	}
	return all
}

func TestReadDoesNotTellTheOrder(t *testing.T) {
	const query, want = "(Z,X):-two(X,Y),three(Y,Z,W),one(W),two(Y,Y)", "[{[2 1] -3300} {[2 2] -330000}]"
	for _, order := range append(orders("WXYZ"), "") {
		e := engineOfThree(t)
		wantRegister(t, e, "a", query, order, api.OK, 0)
		wantApply(t, e, kindsBatch(), api.OK, 0)
		wantRegister(t, e, "b", query, order, api.OK, 0)
		wantRead(t, e, "a", want)
		wantRead(t, e, "b", want)
	}
}

func TestReadNumbersAtTheEnds(t *testing.T) {
	const least, most = math.MinInt64, math.MaxInt64
	const low, high = "-9223372036854775808", "9223372036854775807"
	e := engineOfThree(t)
	wantRegister(t, e, "a", "(X,Y):-two(X,Y),two(Y,X)", "", api.OK, 0)
	wantRegister(t, e, "b", "(X):-two(X,X),one(X)", "", api.OK, 0)
	wantRegister(t, e, "c", "(X,Y):-one(X),one(Y)", "YX", api.OK, 0)
	wantApply(t, e, []api.Entry{entry("two", 2, least, most), entry("two", 3, most, least), entry("two", 5, most, most)}, api.OK, 0)
	wantApply(t, e, []api.Entry{entry("one", 7, most), entry("one", 11, least), entry("two", 13, least, least)}, api.OK, 0)
	wantRead(t, e, "a", fmt.Sprintf("[{[%s %s] 169} {[%s %s] 6} {[%s %s] 6} {[%s %s] 25}]", low, low, low, high, high, low, high, high))
	wantRead(t, e, "b", fmt.Sprintf("[{[%s] 143} {[%s] 35}]", low, high))
	wantRead(t, e, "c", fmt.Sprintf("[{[%s %s] 121} {[%s %s] 77} {[%s %s] 77} {[%s %s] 49}]", low, low, low, high, high, low, high, high))
}

func TestReadIsInOrder(t *testing.T) {
	e := engineOfThree(t)
	wantRegister(t, e, "v", "(Z,Y,X,Z):-three(X,Y,Z)", "XYZ", api.OK, 0)
	wantApply(t, e, []api.Entry{
		entry("three", 1, 1, 0, 0), entry("three", 2, -1, 0, 0), entry("three", 3, 9, -5, 0),
		entry("three", 4, 0, 0, 10), entry("three", 5, 0, 1, 9), entry("three", 6, 0, 0, -2), entry("three", 7, 0, 0, 0),
	}, api.OK, 0)
	wantRead(t, e, "v", "[{[-2 0 0 -2] 6} {[0 -5 9 0] 3} {[0 0 -1 0] 2} {[0 0 0 0] 7} {[0 0 1 0] 1} {[9 1 0 9] 5} {[10 0 0 10] 4}]")
}

// Weights of assignments that come to 0 together leave no row, and come back.
func TestReadWeightsThatComeToNothing(t *testing.T) {
	e := engineOfThree(t)
	wantRegister(t, e, "a", "(X):-two(X,Y)", "", api.OK, 0)
	wantRegister(t, e, "b", "():-one(X)", "", api.OK, 0)
	wantRegister(t, e, "c", "(Y):-two(X,Y),one(X)", "", api.OK, 0)
	wantApply(t, e, []api.Entry{entry("two", 4, 1, 1), entry("two", -4, 1, 2), entry("two", 4, 2, 1)}, api.OK, 0)
	wantRead(t, e, "a", "[{[2] 4}]")
	wantApply(t, e, []api.Entry{entry("one", 3, 1), entry("one", -3, 2)}, api.OK, 0)
	wantRead(t, e, "b", "[]")
	wantRead(t, e, "c", "[{[2] -12}]")
	wantRegister(t, e, "d", "():-one(X)", "", api.OK, 0)
	wantRead(t, e, "d", "[]")
	wantApply(t, e, []api.Entry{entry("two", 1, 1, 2), entry("two", -1, 2, 1), entry("one", 1, 2)}, api.OK, 0)
	wantRead(t, e, "a", "[{[1] 1} {[2] 3}]")
	wantRead(t, e, "b", "[{[] 1}]")
	wantRead(t, e, "c", "[{[1] 6} {[2] -9}]")
	wantRead(t, e, "d", "[{[] 1}]")
}

func TestReadTheGreatestWeights(t *testing.T) {
	e := engineOfThree(t)
	wantRegister(t, e, "a", "():-one(A),one(B),one(C),one(D)", "", api.OK, 0)
	wantRegister(t, e, "b", "(X):-one(X),one(A),one(B)", "", api.OK, 0)
	batch := lines(0, api.MaxRows)
	for i := range batch {
		batch[i].Weight = api.MaxWeight
	}
	wantApply(t, e, batch, api.OK, 0)
	wantRead(t, e, "a", "[{[] 65536000000000000}]")
	for i := range batch {
		batch[i].Weight = -api.MaxWeight
	}
	wantApply(t, e, append(batch, batch...), api.OK, 0)
	wantRead(t, e, "a", "[{[] 65536000000000000}]")
	rows, _ := e.Read("b")
	if len(rows) != api.MaxRows || rows[15].Weight != -256000000000 {
		t.Errorf("Read(b) = %v", rows)
	}
}

// As many rows as a view can have: 16 to the fourth.
func TestReadTheMostRows(t *testing.T) {
	e := engineOfThree(t)
	wantRegister(t, e, "v", "(A,B,C,D):-one(A),one(B),one(C),one(D)", "", api.OK, 0)
	wantApply(t, e, lines(-8, api.MaxRows), api.OK, 0)
	wantApply(t, e, []api.Entry{entry("one", 1, 7)}, api.OK, 0)
	rows, wrong := e.Read("v")
	if len(rows) != 1<<16 || wrong != api.OK {
		t.Fatalf("Read(v): %d rows, %d", len(rows), wrong)
	}
	for i, row := range rows {
		weight := int64(1)
		for k := range row.Values {
			want := int64(i>>(12-4*k)&15 - 8)
			if row.Values[k] != want {
				t.Fatalf("row %d is %v", i, row)
			}
			if want == 7 {
				weight *= 2
			}
		}
		if row.Weight != weight {
			t.Fatalf("row %d is %v", i, row)
		}
	}
}

// P6: a batch that is refused changes no view, wherever what is wrong with it stands.
func TestReadBehindABatchThatWasRefused(t *testing.T) {
	e := engineOfThree(t)
	wantRegister(t, e, "a", "(X):-one(X)", "", api.OK, 0)
	wantRegister(t, e, "b", "(X,Z):-two(X,Y),two(Y,Z)", "", api.OK, 0)
	wantApply(t, e, kindsBatch(), api.OK, 0)
	good := entry("two", 1, 1, 1)
	wantRefused(t, e, []api.Entry{good, entry("q", 1, 1)}, api.ErrUnknown, 1)
	wantRefused(t, e, []api.Entry{good, entry("one", 1)}, api.ErrArity, 1)
	wantRefused(t, e, []api.Entry{good, entry("one", 1001, 1)}, api.ErrWeight, 1)
	wantRefused(t, e, []api.Entry{good, entry("one", 999, 1)}, api.ErrWeight, 0)
	wantRefused(t, e, append(lines(0, 17), good), api.ErrRows, 0)
	wantRefused(t, e, make([]api.Entry, api.MaxBatch+1), api.ErrLimit, 0)
	wantApply(t, e, []api.Entry{good}, api.OK, 0)
	wantRead(t, e, "a", "[{[1] 2} {[2] -3} {[3] 5}]")
	wantRead(t, e, "b", "[{[1 1] -9} {[1 2] 101} {[1 3] 10} {[2 2] 10000} {[3 1] -1} {[3 2] -1} {[3 3] -10}]")
}

// P4: a Register that is refused makes no view, and leaves the one that is there.
func TestReadBehindARegisterThatWasRefused(t *testing.T) {
	e := engineOfThree(t)
	wantApply(t, e, kindsBatch(), api.OK, 0)
	wantRegister(t, e, "a", "(X):-one(X)", "", api.OK, 0)
	wantRegister(t, e, "a", "(X):-two(X,Y)", "", api.ErrTaken, 0)
	wantRead(t, e, "a", "[{[1] 2} {[2] -3} {[3] 5}]")
	wantNoView(t, e, "b", "(X):-one(X)", "XX", api.ErrOrder, 0)
	wantNoView(t, e, "b", "(X):-one(X),one(X,X)", "", api.ErrArity, 12)
	wantUnread(t, e, "b")
}

// P5: what was dropped is gone, gains no more, and leaves its name free.
func TestReadBehindDrop(t *testing.T) {
	e := engineOfThree(t)
	wantApply(t, e, kindsBatch(), api.OK, 0)
	wantRegister(t, e, "a", "(X):-one(X)", "", api.OK, 0)
	wantRegister(t, e, "b", "(X,X):-one(X)", "", api.OK, 0)
	wantDrop(t, e, "a", api.OK)
	wantUnread(t, e, "a")
	wantApply(t, e, []api.Entry{entry("one", 1, 1)}, api.OK, 0)
	wantUnread(t, e, "a")
	wantRead(t, e, "b", "[{[1 1] 3} {[2 2] -3} {[3 3] 5}]")
	wantRegister(t, e, "a", "(Y):-two(X,Y)", "", api.OK, 0)
	wantRead(t, e, "a", "[{[1] -1} {[2] 101} {[3] 10}]")
	wantDrop(t, e, "b", api.OK)
	wantApply(t, e, []api.Entry{entry("one", 1, 1), entry("two", 1, 3, 1)}, api.OK, 0)
	wantRead(t, e, "a", "[{[2] 101} {[3] 10}]")
	wantRegister(t, e, "b", "(X):-one(X)", "", api.OK, 0)
	wantRead(t, e, "b", "[{[1] 4} {[2] -3} {[3] 5}]")
}

// A relation and a view may have the same name.
func TestReadAViewWithTheNameOfARelation(t *testing.T) {
	e := engineOfThree(t)
	wantRegister(t, e, "one", "(X):-two(X,2)", "", api.OK, 0)
	wantRegister(t, e, "two", "(X):-one(X)", "", api.OK, 0)
	wantApply(t, e, kindsBatch(), api.OK, 0)
	wantRead(t, e, "one", "[{[1] 1} {[2] 100}]")
	wantRead(t, e, "two", "[{[1] 2} {[2] -3} {[3] 5}]")
	wantRows(t, e, "one", "[{[1] 2} {[2] -3} {[3] 5}]")
	wantDrop(t, e, "one", api.OK)
	wantUnread(t, e, "one")
	wantRows(t, e, "one", "[{[1] 2} {[2] -3} {[3] 5}]")
}

// A relation that is made behind a view, and rows of it.
func TestReadBehindCreate(t *testing.T) {
	e := engineOfThree(t)
	wantRegister(t, e, "a", "(X):-one(X)", "", api.OK, 0)
	wantCreate(t, e, "new", 2, api.OK)
	wantApply(t, e, []api.Entry{entry("new", 3, 1, 2), entry("one", 2, 2)}, api.OK, 0)
	wantRegister(t, e, "b", "(X,Y):-new(X,Y),one(Y)", "", api.OK, 0)
	wantRead(t, e, "a", "[{[2] 2}]")
	wantRead(t, e, "b", "[{[1 2] 6}]")
}
