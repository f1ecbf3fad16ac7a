package views_test

import (
	"fmt"
	"math"
	"slices"
	"strings"
	"testing"

	"views/api"
	"views/views"
)

func wantGroup(t *testing.T, e *views.Engine, view string, columns int, want string) {
	t.Helper()
	rows, wrong := e.Group(view, columns)
	if got := fmt.Sprint(rows); got != want || wrong != api.OK {
		t.Errorf("Group(%s, %d) = %.300s, %d, want %.300s", view, columns, got, wrong, want)
	}
}

// wantNoGroup asks also that nothing has changed (P1).
func wantNoGroup(t *testing.T, e *views.Engine, view string, columns int, want api.Errno) {
	t.Helper()
	before := tellAll(e)
	if rows, wrong := e.Group(view, columns); len(rows) != 0 || wrong != want {
		t.Errorf("Group(%.20q, %d) = %v, %d, want %d", view, columns, rows, wrong, want)
	}
	if after := tellAll(e); after != before {
		t.Errorf("refused, yet it was %s and is %s", before, after)
	}
}

// groupByHand adds the rows of Read up one by one, with none of the program's means.
func groupByHand(e *views.Engine, view string, columns int) string {
	rows, _ := e.Read(view)
	groups := []api.Row{}
	for _, row := range rows {
		begin := row.Values[:columns]
		at := slices.IndexFunc(groups, func(g api.Row) bool { return slices.Equal(g.Values, begin) })
		if at < 0 {
			groups = append(groups, api.Row{Values: begin, Weight: row.Weight})
		} else {
			groups[at].Weight += row.Weight
		}
	}
	groups = slices.DeleteFunc(groups, func(g api.Row) bool { return g.Weight == 0 })
	return fmt.Sprint(groups)
}

func TestGroupUnknown(t *testing.T) {
	e := engineFull(t)
	wantApply(t, e, []api.Entry{entry("one", 1, 1)}, api.OK, 0)
	for _, name := range []string{"", "g", "A", "aa", " a", "a ", "one", "\xff", strings.Repeat("a", 1<<20)} {
		wantNoGroup(t, e, name, 0, api.ErrUnknown)
		wantNoGroup(t, e, name, 1, api.ErrUnknown)
	}
	wantNoGroup(t, views.New(), "a", 0, api.ErrUnknown)
}

var noColumns = []int{math.MinInt, -5, -1, 5, 1 << 32, math.MaxInt}

func TestGroupArity(t *testing.T) {
	e := engineOfThree(t)
	heads := []string{"()", "(X)", "(X,X)", "(X,Y,Z)", "(X,Y,Z,X)"}
	for round := range 2 {
		for variables, head := range heads {
			name := string(rune('a' + variables))
			if round == 0 {
				wantRegister(t, e, name, head+":-three(X,Y,Z)", "", api.OK, 0)
			}
			for columns := range variables + 1 {
				wantGroup(t, e, name, columns, groupByHand(e, name, columns))
			}
			for _, columns := range append(noColumns, variables+1) {
				wantNoGroup(t, e, name, columns, api.ErrArity)
			}
		}
		wantApply(t, e, kindsBatch(), api.OK, 0)
	}
}

// P1: of two errors the one that is named first.
func TestGroupUnknownAheadOfArity(t *testing.T) {
	e := engineFull(t)
	for _, columns := range noColumns {
		wantNoGroup(t, e, "g", columns, api.ErrUnknown)
		wantNoGroup(t, e, "one", columns, api.ErrUnknown)
		wantNoGroup(t, e, "", columns, api.ErrUnknown)
		wantNoGroup(t, e, "a", columns, api.ErrArity)
	}
}

func TestGroupExamples(t *testing.T) {
	e := views.New()
	wantCreate(t, e, "r", 2, api.OK)
	wantRegister(t, e, "v", "(X,Z):-r(X,Y),r(Y,Z)", "", api.OK, 0)
	wantApply(t, e, []api.Entry{entry("r", 1, 1, 2), entry("r", 2, 2, 3)}, api.OK, 0)
	wantApply(t, e, []api.Entry{entry("r", 1, 2, 2)}, api.OK, 0)
	wantGroup(t, e, "v", 2, "[{[1 2] 1} {[1 3] 2} {[2 2] 1} {[2 3] 2}]")
	wantGroup(t, e, "v", 1, "[{[1] 3} {[2] 3}]")
	wantGroup(t, e, "v", 0, "[{[] 6}]")
	wantApply(t, e, []api.Entry{entry("r", -1, 1, 2)}, api.OK, 0)
	wantGroup(t, e, "v", 1, "[{[2] 3}]")
	wantGroup(t, e, "v", 0, "[{[] 3}]")
}

func TestGroupOfEachLength(t *testing.T) {
	e := engineOfThree(t)
	wantRegister(t, e, "v", "(Y,X,Z,Y):-three(X,Y,Z)", "", api.OK, 0)
	for columns := range 5 {
		wantGroup(t, e, "v", columns, "[]")
	}
	wantApply(t, e, []api.Entry{
		entry("three", 1, 9, -1, 0), entry("three", 2, 8, -1, 1), entry("three", 3, 8, -1, 0),
		entry("three", 4, 8, 10, 0), entry("three", 5, -8, 9, 0), entry("three", 6, -8, 9, 7),
	}, api.OK, 0)
	wantGroup(t, e, "v", 0, "[{[] 21}]")
	wantGroup(t, e, "v", 1, "[{[-1] 6} {[9] 11} {[10] 4}]")
	wantGroup(t, e, "v", 2, "[{[-1 8] 5} {[-1 9] 1} {[9 -8] 11} {[10 8] 4}]")
	all := "[{[-1 8 0] 3} {[-1 8 1] 2} {[-1 9 0] 1} {[9 -8 0] 5} {[9 -8 7] 6} {[10 8 0] 4}]"
	wantGroup(t, e, "v", 3, all)
	rows := "[{[-1 8 0 -1] 3} {[-1 8 1 -1] 2} {[-1 9 0 -1] 1} {[9 -8 0 9] 5} {[9 -8 7 9] 6} {[10 8 0 10] 4}]"
	wantGroup(t, e, "v", 4, rows)
	wantRead(t, e, "v", rows)
}

// With no variable in the head there is one list, the empty one, or none.
func TestGroupWithoutVariables(t *testing.T) {
	e := engineOfThree(t)
	wantRegister(t, e, "a", "():-one(X)", "", api.OK, 0)
	wantRegister(t, e, "b", "():-one(7)", "", api.OK, 0)
	wantGroup(t, e, "a", 0, "[]")
	wantApply(t, e, []api.Entry{entry("one", 3, 1), entry("one", -5, 7)}, api.OK, 0)
	wantGroup(t, e, "a", 0, "[{[] -2}]")
	wantGroup(t, e, "b", 0, "[{[] -5}]")
	wantApply(t, e, []api.Entry{entry("one", 2, 7)}, api.OK, 0)
	wantRead(t, e, "a", "[]")
	wantGroup(t, e, "a", 0, "[]")
	wantGroup(t, e, "b", 0, "[{[] -3}]")
	wantNoGroup(t, e, "a", 1, api.ErrArity)
}

// Rows that come to 0 together are no group, though each is still a row.
func TestGroupSumsThatComeToNothing(t *testing.T) {
	e := engineOfThree(t)
	wantRegister(t, e, "v", "(X,Y):-two(X,Y)", "", api.OK, 0)
	wantApply(t, e, []api.Entry{
		entry("two", 4, 1, 1), entry("two", -6, 1, 2), entry("two", 2, 1, 3), entry("two", 5, 2, 1), entry("two", -5, 3, 1),
	}, api.OK, 0)
	wantGroup(t, e, "v", 2, "[{[1 1] 4} {[1 2] -6} {[1 3] 2} {[2 1] 5} {[3 1] -5}]")
	wantGroup(t, e, "v", 1, "[{[2] 5} {[3] -5}]")
	wantGroup(t, e, "v", 0, "[]")
	wantApply(t, e, []api.Entry{entry("two", -2, 1, 3)}, api.OK, 0)
	wantGroup(t, e, "v", 1, "[{[1] -2} {[2] 5} {[3] -5}]")
	wantGroup(t, e, "v", 0, "[{[] -2}]")
}

// A number that is 0 is not one that is missing.
func TestGroupNoughts(t *testing.T) {
	e := engineOfThree(t)
	wantRegister(t, e, "v", "(X,Y):-two(X,Y)", "", api.OK, 0)
	wantApply(t, e, []api.Entry{entry("two", 1, 0, 0), entry("two", 2, 0, 5), entry("two", 3, 5, 0)}, api.OK, 0)
	wantGroup(t, e, "v", 1, "[{[0] 3} {[5] 3}]")
	wantGroup(t, e, "v", 0, "[{[] 6}]")
}

func TestGroupNumbersAtTheEnds(t *testing.T) {
	const least, most = math.MinInt64, math.MaxInt64
	e := engineOfThree(t)
	wantRegister(t, e, "v", "(X,Y):-two(X,Y)", "", api.OK, 0)
	wantApply(t, e, []api.Entry{
		entry("two", 1, most, least), entry("two", 2, least, most), entry("two", 3, most, most), entry("two", 4, -1, 0),
	}, api.OK, 0)
	wantGroup(t, e, "v", 1, "[{[-9223372036854775808] 2} {[-1] 4} {[9223372036854775807] 4}]")
}

// Often, since the order in which a map is gone through must not be seen.
func TestGroupIsInOrder(t *testing.T) {
	e := engineOfThree(t)
	wantRegister(t, e, "v", "(X,Y):-one(X),one(Y)", "", api.OK, 0)
	wantApply(t, e, lines(-8, api.MaxRows), api.OK, 0)
	for range 20 {
		rows, _ := e.Group("v", 1)
		if len(rows) != api.MaxRows {
			t.Fatalf("Group(v, 1): %d rows", len(rows))
		}
		for i, row := range rows {
			if len(row.Values) != 1 || row.Values[0] != int64(i-8) || row.Weight != api.MaxRows {
				t.Fatalf("row %d is %v", i, row)
			}
		}
	}
}

func TestGroupTheMostRowsAndTheGreatestWeights(t *testing.T) {
	e := engineOfThree(t)
	wantRegister(t, e, "v", "(A,B,C,D):-one(A),one(B),one(C),one(D)", "", api.OK, 0)
	batch := lines(0, api.MaxRows)
	for i := range batch {
		batch[i].Weight = -api.MaxWeight
	}
	wantApply(t, e, batch, api.OK, 0)
	weight, count := int64(65536000000000000), 1
	for columns := range 5 {
		rows, wrong := e.Group("v", columns)
		if len(rows) != count || wrong != api.OK {
			t.Fatalf("Group(v, %d): %d rows, %d", columns, len(rows), wrong)
		}
		for i, row := range rows {
			if len(row.Values) != columns || row.Weight != weight || columns > 0 && row.Values[columns-1] != int64(i%16) {
				t.Fatalf("Group(v, %d): row %d is %v", columns, i, row)
			}
		}
		weight, count = weight/16, count*16
	}
}

func TestGroupKinds(t *testing.T) {
	for _, c := range kinds {
		e := engineOfThree(t)
		wantRegister(t, e, "a", c.query, "", api.OK, 0)
		variables := strings.Count(c.query[:strings.IndexByte(c.query, ')')], ",")
		if c.query[1] != ')' {
			variables++
		}
		wantApply(t, e, kindsBatch(), api.OK, 0)
		wantRegister(t, e, "b", c.query, "", api.OK, 0)
		for _, view := range []string{"a", "b"} {
			for columns := range variables + 1 {
				wantGroup(t, e, view, columns, groupByHand(e, view, columns))
			}
			wantGroup(t, e, view, variables, c.want)
			wantNoGroup(t, e, view, variables+1, api.ErrArity)
			wantNoGroup(t, e, view, -1, api.ErrArity)
		}
		if t.Failed() {
			t.Fatalf("with %s", c.query)
		}
	}
}

// A view that was dropped has no groups, and one that came in its place its own.
func TestGroupBehindDrop(t *testing.T) {
	e := engineOfThree(t)
	wantApply(t, e, kindsBatch(), api.OK, 0)
	wantRegister(t, e, "a", "(X,Y):-two(X,Y)", "", api.OK, 0)
	wantGroup(t, e, "a", 1, "[{[1] 11} {[2] 100} {[3] -1}]")
	wantDrop(t, e, "a", api.OK)
	wantNoGroup(t, e, "a", 1, api.ErrUnknown)
	wantRegister(t, e, "a", "(Y):-two(X,Y)", "", api.OK, 0)
	wantGroup(t, e, "a", 1, "[{[1] -1} {[2] 101} {[3] 10}]")
	wantNoGroup(t, e, "a", 2, api.ErrArity)
}

// To ask for groups changes nothing.
func TestGroupChangesNothing(t *testing.T) {
	e := engineOfThree(t)
	wantRegister(t, e, "a", "(X,Y):-two(X,Y)", "", api.OK, 0)
	wantApply(t, e, kindsBatch(), api.OK, 0)
	before := tellAll(e)
	for columns := range 3 {
		e.Group("a", columns)
	}
	if after := tellAll(e); after != before {
		t.Errorf("it was %s and is %s", before, after)
	}
}
