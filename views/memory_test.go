package views_test

import (
	"fmt"
	"math"
	"strings"
	"testing"

	"views/api"
	"views/views"
)

// P1: every call at odd arguments, on an engine with and one without relations.
func TestNoCallPanics(t *testing.T) {
	texts := []string{"", "one", "two", "a", "\x00", "\xff\xfe", "é", ":-", strings.Repeat("z", 1<<16)}
	numbers := []int{math.MinInt, -1, 0, 1, 2, 3, 4, math.MaxInt}
	for _, e := range []*views.Engine{views.New(), engineOfThree(t)} {
		for _, text := range texts {
			for _, number := range numbers {
				e.Create(text, number)
				e.Group(text, number)
				e.Apply([]api.Entry{{Relation: text, Weight: number}})
				e.Apply([]api.Entry{{Relation: text, Row: make([]int64, 3), Weight: number}})
				e.Apply([]api.Entry{{Relation: text, Row: make([]int64, 1<<10), Weight: number}})
			}
			e.Rows(text)
			e.Read(text)
			e.Drop(text)
			e.Register(text, text, text)
			e.Register("v", text, text)
			e.Register("v", "(X):-one(X)", text)
			e.Register("v", "(X):-one("+text, text)
		}
		e.Apply(nil)
		e.Apply(make([]api.Entry, 1<<16))
		e.Compact()
	}
}

func TestEnginesKnowNothingOfOneAnother(t *testing.T) {
	a, b := engineOfThree(t), engineOfThree(t)
	wantApply(t, a, []api.Entry{entry("one", 1, 1)}, api.OK, 0)
	wantRows(t, a, "one", "[{[1] 1}]")
	wantRows(t, b, "one", "[]")
	wantCreate(t, a, "x", 1, api.OK)
	if _, wrong := b.Rows("x"); wrong != api.ErrUnknown {
		t.Errorf("a relation of one engine is in the other: %d", wrong)
	}
	wantCreate(t, b, "x", 2, api.OK)
}

func TestApplyWritesIntoNothing(t *testing.T) {
	e := engineOfThree(t)
	numbers := []int64{1, 2, 3, 4, 5, 6}
	batch := []api.Entry{
		{Relation: "two", Row: numbers[:2], Weight: 1},
		{Relation: "one", Row: numbers[2:3], Weight: 2},
		{Relation: "q", Row: numbers, Weight: 3},
	}
	before := fmt.Sprint(batch, numbers)
	wantApply(t, e, batch[:2], api.OK, 0)
	wantApply(t, e, batch, api.ErrUnknown, 2)
	if after := fmt.Sprint(batch, numbers); after != before {
		t.Errorf("it was %s and is %s", before, after)
	}
}

func TestApplyKeepsNothing(t *testing.T) {
	e := engineOfThree(t)
	batch := []api.Entry{entry("two", 1, 1, 2), entry("two", 1, 3, 4)}
	wantApply(t, e, batch, api.OK, 0)
	for i := range batch {
		batch[i].Row[0], batch[i].Row[1] = 9, 9
		batch[i].Relation, batch[i].Weight = "one", 77
	}
	wantRows(t, e, "two", "[{[1 2] 1} {[3 4] 1}]")
}

func TestRowsAreTheCallers(t *testing.T) {
	e := engineOfThree(t)
	wantApply(t, e, []api.Entry{entry("two", 1, 1, 2), entry("two", 1, 3, 4), entry("two", 1, 5, 6)}, api.OK, 0)
	const want = "[{[1 2] 1} {[3 4] 1} {[5 6] 1}]"
	first, _ := e.Rows("two")
	second, _ := e.Rows("two")
	overwrite(first)
	if got := fmt.Sprint(second); got != want {
		t.Errorf("two answers share memory: %s", got)
	}
	wantRows(t, e, "two", want)
	// A row's spare room must not reach into the next row.
	for i := range second {
		_ = append(second[i].Values, -1, -1)
		spare := second[i].Values[:cap(second[i].Values)]
		for k := len(second[i].Values); k < len(spare); k++ {
			spare[k] = -1
		}
	}
	if got := fmt.Sprint(second); got != want {
		t.Errorf("rows of one answer share spare room: %s", got)
	}
	wantRows(t, e, "two", want)
}

// overwrite writes into all of a list, its spare room too.
func overwrite(rows []api.Row) {
	rows = rows[:cap(rows)]
	for i := range rows {
		values := rows[i].Values[:cap(rows[i].Values)]
		for k := range values {
			values[k] = -9
		}
		rows[i].Weight = -9
	}
}
