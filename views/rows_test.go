package views_test

import (
	"math"
	"slices"
	"testing"

	"views/api"
	"views/views"
)

func TestRowsUnknown(t *testing.T) {
	e := engineOfThree(t)
	for _, name := range []string{"", "q", "ONE", "on", "onee", "one ", "\xff"} {
		if rows, wrong := e.Rows(name); len(rows) != 0 || wrong != api.ErrUnknown {
			t.Errorf("Rows(%q) = %v, %d", name, rows, wrong)
		}
	}
	if rows, wrong := views.New().Rows("one"); len(rows) != 0 || wrong != api.ErrUnknown {
		t.Errorf("Rows of a new engine = %v, %d", rows, wrong)
	}
}

func TestRowsInOrder(t *testing.T) {
	e := engineOfThree(t)
	wantApply(t, e, []api.Entry{
		entry("three", 1, 0, 0, 1), entry("three", 2, 0, 0, -1), entry("three", 3, 0, -5, 9),
		entry("three", 4, math.MaxInt64, math.MinInt64, 0), entry("three", 5, math.MinInt64, 0, 0),
		entry("three", 6, 10, 0, 0), entry("three", 7, 9, 1, 0), entry("three", 8, 0, 0, 0),
	}, api.OK, 0)
	wantRows(t, e, "three", "[{[-9223372036854775808 0 0] 5} {[0 -5 9] 3} {[0 0 -1] 2} {[0 0 0] 8} {[0 0 1] 1}"+
		" {[9 1 0] 7} {[10 0 0] 6} {[9223372036854775807 -9223372036854775808 0] 4}]")
}

func TestRowsHaveTheirArity(t *testing.T) {
	e := engineOfThree(t)
	wantApply(t, e, []api.Entry{entry("one", 1, 0), entry("two", 1, 0, 0), entry("three", 1, 0, 0, 0)}, api.OK, 0)
	wantRows(t, e, "one", "[{[0] 1}]")
	wantRows(t, e, "two", "[{[0 0] 1}]")
	wantRows(t, e, "three", "[{[0 0 0] 1}]")
}

// P10 for relations: how entries stand in a batch, and in which parts, is not to be seen.
func TestRowsDoNotTellTheWayThere(t *testing.T) {
	batch := []api.Entry{
		entry("two", 3, 5, 1), entry("two", 1, 1, 5), entry("two", -2, 5, 1),
		entry("one", 9, 4), entry("two", 7, 3, 3), entry("one", -9, 4),
	}
	whole, turned, parts := engineOfThree(t), engineOfThree(t), engineOfThree(t)
	wantApply(t, whole, batch, api.OK, 0)
	for _, x := range batch {
		wantApply(t, parts, []api.Entry{x}, api.OK, 0)
	}
	slices.Reverse(batch)
	wantApply(t, turned, batch, api.OK, 0)
	if a, b, c := tellAll(whole), tellAll(turned), tellAll(parts); a != b || a != c {
		t.Errorf("whole %s, turned %s, in parts %s", a, b, c)
	}
}
