package views_test

import (
	"fmt"
	"math"
	"strings"
	"testing"

	"views/api"
	"views/views"
)

// P1: every call at odd arguments, on an engine with and one without relations.
func TestNoCallPanics(t *testing.T) {
	texts := []string{"", "one", "two", "a", "\x00", "\xff\xfe", "é", ":-", strings.Repeat("z", 1<<16)}
	numbers := []int{math.MinInt, -1, 0, 1, 2, 3, 4, math.MaxInt}
	for _, e := range []*views.Engine{views.New(), engineOfThree(t)} {
		for _, text := range texts {
			for _, number := range numbers {
				e.Create(text, number)
				e.Group(text, number)
				e.Group("v", number)
				e.Apply([]api.Entry{{Relation: text, Weight: number}})
				e.Apply([]api.Entry{{Relation: text, Row: make([]int64, 3), Weight: number}})
				e.Apply([]api.Entry{{Relation: text, Row: make([]int64, 1<<10), Weight: number}})
			}
			e.Rows(text)
			e.Read(text)
			e.Drop(text)
			e.Register(text, text, text)
			e.Register("v", text, text)
			e.Register("v", "(X):-one(X)", text)
			e.Register("v", "(X):-one("+text, text)
			e.Read("v")
			e.Compact()
		}
		e.Apply(nil)
		e.Apply(make([]api.Entry, 1<<16))
		e.Compact()
	}
}

func TestEnginesKnowNothingOfOneAnother(t *testing.T) {
	a, b := engineOfThree(t), engineOfThree(t)
	wantApply(t, a, []api.Entry{entry("one", 1, 1)}, api.OK, 0)
	wantRows(t, a, "one", "[{[1] 1}]")
	wantRows(t, b, "one", "[]")
	wantRegister(t, a, "v", "(X):-one(X)", "", api.OK, 0)
	wantRegister(t, b, "v", "(X):-one(X)", "", api.OK, 0)
	wantRegister(t, b, "w", "(X):-one(X)", "", api.OK, 0)
	wantApply(t, a, []api.Entry{entry("one", 1, 2)}, api.OK, 0)
	wantRead(t, a, "v", "[{[1] 1} {[2] 1}]")
	wantRead(t, b, "v", "[]")
	wantUnread(t, a, "w")
	wantGroup(t, a, "v", 0, "[{[] 2}]")
	wantGroup(t, b, "v", 0, "[]")
	wantNoGroup(t, a, "w", 0, api.ErrUnknown)
	wantCreate(t, a, "x", 1, api.OK)
	if _, wrong := b.Rows("x"); wrong != api.ErrUnknown {
		t.Errorf("a relation of one engine is in the other: %d", wrong)
	}
	wantCreate(t, b, "x", 2, api.OK)
}

func TestApplyWritesIntoNothing(t *testing.T) {
	e := engineOfThree(t)
	numbers := []int64{1, 2, 3, 4, 5, 6}
	batch := []api.Entry{
		{Relation: "two", Row: numbers[:2], Weight: 1},
		{Relation: "one", Row: numbers[2:3], Weight: 2},
		{Relation: "q", Row: numbers, Weight: 3},
	}
	before := fmt.Sprint(batch, numbers)
	wantApply(t, e, batch[:2], api.OK, 0)
	wantApply(t, e, batch, api.ErrUnknown, 2)
	if after := fmt.Sprint(batch, numbers); after != before {
		t.Errorf("it was %s and is %s", before, after)
	}
}

func TestApplyKeepsNothing(t *testing.T) {
	e := engineOfThree(t)
	wantRegister(t, e, "v", "(X,Y):-two(X,Y)", "", api.OK, 0)
	batch := []api.Entry{entry("two", 1, 1, 2), entry("two", 1, 3, 4)}
	wantApply(t, e, batch, api.OK, 0)
	for i := range batch {
		batch[i].Row[0], batch[i].Row[1] = 9, 9
		batch[i].Relation, batch[i].Weight = "one", 77
	}
	wantRows(t, e, "two", "[{[1 2] 1} {[3 4] 1}]")
	wantRead(t, e, "v", "[{[1 2] 1} {[3 4] 1}]")
}

func TestRowsAreTheCallers(t *testing.T) {
	e := engineOfThree(t)
	wantApply(t, e, []api.Entry{entry("two", 1, 1, 2), entry("two", 1, 3, 4), entry("two", 1, 5, 6)}, api.OK, 0)
	wantTheCallers(t, "[{[1 2] 1} {[3 4] 1} {[5 6] 1}]", func() []api.Row {
		rows, _ := e.Rows("two")
		return rows
	})
}

func TestRowsOfAViewAreTheCallers(t *testing.T) {
	e := engineOfThree(t)
	wantRegister(t, e, "v", "(Y,X,Y):-two(X,Y)", "", api.OK, 0)
	wantRegister(t, e, "w", "():-two(X,Y)", "", api.OK, 0)
	wantApply(t, e, []api.Entry{entry("two", 1, 1, 2), entry("two", 1, 3, 4), entry("two", 1, 5, 6)}, api.OK, 0)
	wantTheCallers(t, "[{[2 1 2] 1} {[4 3 4] 1} {[6 5 6] 1}]", func() []api.Row {
		rows, _ := e.Read("v")
		return rows
	})
	wantTheCallers(t, "[{[] 3}]", func() []api.Row {
		rows, _ := e.Read("w")
		return rows
	})
	// Nor does a view hang on what its owner wrote when it next gains.
	wantApply(t, e, []api.Entry{entry("two", 1, 3, 4)}, api.OK, 0)
	wantRead(t, e, "v", "[{[2 1 2] 1} {[4 3 4] 2} {[6 5 6] 1}]")
}

func TestGroupsAreTheCallers(t *testing.T) {
	e := engineOfThree(t)
	wantRegister(t, e, "v", "(X,Y):-two(X,Y)", "", api.OK, 0)
	wantApply(t, e, []api.Entry{entry("two", 1, 1, 2), entry("two", 1, 1, 4), entry("two", 1, 5, 6)}, api.OK, 0)
	for columns, want := range []string{"[{[] 3}]", "[{[1] 2} {[5] 1}]", "[{[1 2] 1} {[1 4] 1} {[5 6] 1}]"} {
		wantTheCallers(t, want, func() []api.Row {
			rows, _ := e.Group("v", columns)
			return rows
		})
	}
	// Nor does a view hang on what its owner wrote when it next gains.
	wantApply(t, e, []api.Entry{entry("two", 1, 5, 7)}, api.OK, 0)
	wantGroup(t, e, "v", 1, "[{[1] 2} {[5] 2}]")
	wantRead(t, e, "v", "[{[1 2] 1} {[1 4] 1} {[5 6] 1} {[5 7] 1}]")
}

// What came out earlier stays as it is, whatever comes later.
func TestAnswersStayAsTheyAre(t *testing.T) {
	e := engineOfThree(t)
	wantRegister(t, e, "v", "(X,Y):-two(X,Y)", "", api.OK, 0)
	wantApply(t, e, []api.Entry{entry("two", 1, 1, 2), entry("two", 1, 1, 4)}, api.OK, 0)
	groups, _ := e.Group("v", 1)
	rows, _ := e.Read("v")
	wantApply(t, e, []api.Entry{entry("two", 5, 1, 2), entry("two", 1, 0, 0)}, api.OK, 0)
	e.Compact()
	e.Group("v", 0)
	e.Group("v", 2)
	if got := fmt.Sprint(groups, rows); got != "[{[1] 2}] [{[1 2] 1} {[1 4] 1}]" {
		t.Errorf("the answers are %s", got)
	}
}

func wantTheCallers(t *testing.T, want string, ask func() []api.Row) {
	t.Helper()
	first, second := ask(), ask()
	overwrite(first)
	if got := fmt.Sprint(second); got != want {
		t.Errorf("two answers share memory: %s", got)
	}
	// A row's spare room must not reach into the next row.
	for i := range second {
		_ = append(second[i].Values, -1, -1)
		spare := second[i].Values[:cap(second[i].Values)]
		for k := len(second[i].Values); k < len(spare); k++ {
			spare[k] = -1
		}
	}
	if got := fmt.Sprint(second); got != want {
		t.Errorf("rows of one answer share spare room: %s", got)
	}
	if got := fmt.Sprint(ask()); got != want {
		t.Errorf("what is kept was written into: %s", got)
	}
}

// overwrite writes into all of a list, its spare room too.
func overwrite(rows []api.Row) {
	rows = rows[:cap(rows)]
	for i := range rows {
		values := rows[i].Values[:cap(rows[i].Values)]
		for k := range values {
			values[k] = -9
		}
		rows[i].Weight = -9
	}
}
