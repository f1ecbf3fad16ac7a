package query_test

import (
	"testing"

	"views/query"
)

func readGood(t *testing.T, text string) *query.Query {
	t.Helper()
	q, err := query.Read(text)
	if err != nil {
		t.Fatalf("Read(%q): %v", text, err)
	}
	return q
}

// arityOf knows one, two and abcdefgh, and a name that is longer than names are.
func arityOf(name string) (int, bool) {
	switch name {
	case "one", "abcdefgh", "abcdefghi":
		return 1, true
	case "two":
		return 2, true
	}
	return 0, false
}

func TestCheckTellsTheLeastPlace(t *testing.T) {
	for _, c := range []struct{ text, want string }{
		{"(X):-one(X)", ""},
		{"(X,Y,X):-two(Y,X),abcdefgh(7)", ""},
		{"():-one(1)", ""},
		{"(Y):-one(X)", "head: variable 1: error 7 at place 1"},
		{"(X, X, Y, Z):-one(X)", "head: variable 3: error 7 at place 7"},
		{"(X):-one(5)", "head: variable 1: error 7 at place 1"},
		{"(Y):-abcdefghi(X)", "head: variable 1: error 7 at place 1"},
		{"(X):-abcdefghi(X)", "body: atom 1: error 1 at place 5"},
		{"(X):-abcdefghi(X,X)", "body: atom 1: error 1 at place 5"},
		{"(X):-zzzzzzzzz(X)", "body: atom 1: error 1 at place 5"},
		{"(X):-q(X,X)", "body: atom 1: error 6 at place 5"},
		{"(X):-one(X,X)", "body: atom 1: error 2 at place 5"},
		{"(X):-one(X), two(X,X,X),q(X)", "body: atom 2: error 2 at place 13"},
		{"(X):-one(X),one(X),q(X),two(X)", "body: atom 3: error 6 at place 19"},
		{"(X):-one(X),one(X),one(X),two(X)", "body: atom 4: error 2 at place 26"},
	} {
		got := ""
		if err := readGood(t, c.text).Check(arityOf); err != nil {
			got = err.Error()
		}
		if got != c.want {
			t.Errorf("Check(%q) = %q, want %q", c.text, got, c.want)
		}
	}
}

func TestOrderFits(t *testing.T) {
	const three = "(X):-two(X,A),two(Z,-1),one(A)"
	for _, c := range []struct {
		text, order string
		want        bool
	}{
		{three, "", true}, {three, "AXZ", true}, {three, "ZXA", true}, {three, "XZA", true},
		{three, "AX", false}, {three, "AXZZ", false}, {three, "AXZY", false}, {three, "AXX", false},
		{three, "AXY", false}, {three, "A,X,Z", false}, {three, "A X Z", false}, {three, "AXZ ", false},
		{three, " ", false}, {three, "axz", false}, {three, "AX\x00", false}, {three, "AX[", false},
		{three, "AX@", false}, {three, "AXzZ", false}, {three, "AXZ\xff", false},
		{"():-one(1)", "", true}, {"():-one(1)", "X", false}, {"():-one(1)", "1", false},
	} {
		if got := readGood(t, c.text).OrderFits(c.order); got != c.want {
			t.Errorf("%s: OrderFits(%q) = %v", c.text, c.order, got)
		}
	}
}

func TestVariablesAsTheyFirstCome(t *testing.T) {
	for _, c := range []struct{ text, want string }{
		{"():-one(7)", ""},
		{"(A):-two(Z,A),one(A),two(A,B)", "ZAB"},
		{"():-two(X,X),two(3,X)", "X"},
	} {
		if got := string(readGood(t, c.text).Variables()); got != c.want {
			t.Errorf("Variables of %q = %q, want %q", c.text, got, c.want)
		}
	}
}
