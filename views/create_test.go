package views_test

import (
	"math"
	"strings"
	"testing"

	"views/api"
	"views/views"
)

func TestCreateRefusesNoNames(t *testing.T) {
	e := views.New()
	for _, name := range []string{
		"", "abcdefghi", "R", "aB", "r1", "1", "a b", " a", "a ", "a\x00", "a_b", "`", "{", "a`", "a{",
		"é", "aé", "\xff", "\x61\xcc\x81", "ａ", strings.Repeat("a", 1<<20),
	} {
		wantCreate(t, e, name, 1, api.ErrName)
		if rows, wrong := e.Rows(name); len(rows) != 0 || wrong != api.ErrUnknown {
			t.Errorf("Rows(%.20q) = %v, %d", name, rows, wrong)
		}
	}
}

func TestCreateTakesNamesAtTheEdges(t *testing.T) {
	e := views.New()
	for _, name := range []string{"a", "z", "az", "abcdefg", "abcdefgh", "zzzzzzzz"} {
		wantCreate(t, e, name, 1, api.OK)
		wantRows(t, e, name, "[]")
	}
}

func TestCreateArity(t *testing.T) {
	e := views.New()
	for _, arity := range []int{math.MinInt, -1, 0, 4, math.MaxInt} {
		wantCreate(t, e, "r", arity, api.ErrArity)
	}
	if _, wrong := e.Rows("r"); wrong != api.ErrUnknown {
		t.Errorf("a refused Create made the relation: %d", wrong)
	}
	for i, name := range []string{"a", "b", "c"} {
		wantCreate(t, e, name, i+1, api.OK)
		wantApply(t, e, []api.Entry{entry(name, 1, make([]int64, i+1)...)}, api.OK, 0)
	}
}

func TestCreateTaken(t *testing.T) {
	e := views.New()
	wantCreate(t, e, "r", 2, api.OK)
	wantApply(t, e, []api.Entry{entry("r", 3, 1, 2)}, api.OK, 0)
	wantCreate(t, e, "r", 2, api.ErrTaken)
	wantCreate(t, e, "r", 1, api.ErrTaken)
	wantRows(t, e, "r", "[{[1 2] 3}]")
	wantApply(t, e, []api.Entry{entry("r", 1, 1)}, api.ErrArity, 0)
}

func TestCreateLimit(t *testing.T) {
	e := views.New()
	for i := range api.MaxRelations {
		wantCreate(t, e, string(rune('a'+i)), 1, api.OK)
	}
	wantCreate(t, e, "g", 1, api.ErrLimit)
	if _, wrong := e.Rows("g"); wrong != api.ErrUnknown {
		t.Errorf("a refused Create made the relation: %d", wrong)
	}
}

// P1: of several errors the one that is named first.
func TestCreateFirstErrorWins(t *testing.T) {
	e := views.New()
	for i := range api.MaxRelations {
		wantCreate(t, e, string(rune('a'+i)), 1, api.OK)
	}
	wantCreate(t, e, "A", 0, api.ErrName)
	wantCreate(t, e, "A", 1, api.ErrName)
	wantCreate(t, e, "a", 4, api.ErrArity)
	wantCreate(t, e, "g", 4, api.ErrArity)
	wantCreate(t, e, "a", 1, api.ErrTaken)
}
