package views_test

import (
	"fmt"
	"testing"

	"views/api"
	"views/views"
)

func entry(relation string, weight int, row ...int64) api.Entry {
	return api.Entry{Relation: relation, Row: row, Weight: weight}
}

// engineOfThree has one of arity 1, two of arity 2, three of arity 3.
func engineOfThree(t *testing.T) *views.Engine {
	t.Helper()
	e := views.New()
	wantCreate(t, e, "one", 1, api.OK)
	wantCreate(t, e, "two", 2, api.OK)
	wantCreate(t, e, "three", 3, api.OK)
	return e
}

func wantCreate(t *testing.T, e *views.Engine, name string, arity int, want api.Errno) {
	t.Helper()
	if got := e.Create(name, arity); got != want {
		t.Errorf("Create(%.20q, %d) = %d, want %d", name, arity, got, want)
	}
}

func wantApply(t *testing.T, e *views.Engine, batch []api.Entry, want api.Errno, place int) {
	t.Helper()
	if got, at := e.Apply(batch); got != want || at != place {
		t.Errorf("Apply(%.80s) = %d, %d, want %d, %d", fmt.Sprint(batch), got, at, want, place)
	}
}

// wantRefused asks also that nothing has changed (P1).
func wantRefused(t *testing.T, e *views.Engine, batch []api.Entry, want api.Errno, place int) {
	t.Helper()
	before := tellAll(e)
	wantApply(t, e, batch, want, place)
	if after := tellAll(e); after != before {
		t.Errorf("refused, yet it was %s and is %s", before, after)
	}
}

func wantRows(t *testing.T, e *views.Engine, relation string, want string) {
	t.Helper()
	rows, wrong := e.Rows(relation)
	if got := fmt.Sprint(rows); got != want || wrong != api.OK {
		t.Errorf("Rows(%s) = %s, %d, want %s", relation, got, wrong, want)
	}
}

func wantRead(t *testing.T, e *views.Engine, view string, want string) {
	t.Helper()
	rows, wrong := e.Read(view)
	if got := fmt.Sprint(rows); got != want || wrong != api.OK {
		t.Errorf("Read(%s) = %.300s, %d, want %.300s", view, got, wrong, want)
	}
}

// tellAll has the rows of all relations, and the rows and groups of all views
// with a name of one letter.
func tellAll(e *views.Engine) string {
	text := ""
	for _, name := range []string{"one", "two", "three"} {
		rows, wrong := e.Rows(name)
		text += fmt.Sprint(name, rows, wrong)
	}
	for name := 'a'; name <= 'z'; name++ {
		if rows, wrong := e.Read(string(name)); wrong == api.OK {
			text += fmt.Sprint(string(name), rows)
		}
		for columns := range api.MaxHead + 1 {
			if rows, wrong := e.Group(string(name), columns); wrong == api.OK {
				text += fmt.Sprint(columns, rows)
			}
		}
	}
	return text
}

// drawFrom gives numbers from 0 on, the same ones at each run of the test.
func drawFrom(state uint64) func(n int) int {
	return func(n int) int {
		state = state*6364136223846793005 + 1442695040888963407
		return int(state>>33) % n
	}
}
