package views_test

import (
	"testing"

	"views/api"
	"views/views"
)

// wantCompact asks also that nothing that can be asked has changed.
func wantCompact(t *testing.T, e *views.Engine, want int) {
	t.Helper()
	before := tellAll(e)
	for range 2 {
		if got := e.Compact(); got != want {
			t.Errorf("Compact() = %d, want %d", got, want)
		}
	}
	if after := tellAll(e); after != before {
		t.Errorf("it was %s and is %s", before, after)
	}
}

func TestCompactWithoutRows(t *testing.T) {
	e := views.New()
	wantCompact(t, e, 0)
	wantCreate(t, e, "one", 1, api.OK)
	wantCompact(t, e, 0)
	wantRegister(t, e, "v", "(X):-one(X)", "", api.OK, 0)
	wantCompact(t, e, 0)
	wantApply(t, e, []api.Entry{entry("one", 1, 1)}, api.OK, 0)
	wantCompact(t, e, 1)
	wantApply(t, e, []api.Entry{entry("one", -1, 1)}, api.OK, 0)
	wantCompact(t, e, 0)
	wantRead(t, e, "v", "[]")
}

// Rows of relations, not their weights, nor the rows of views; those of
// relations that no view goes through too.
func TestCompactCountsRows(t *testing.T) {
	e := engineOfThree(t)
	wantApply(t, e, []api.Entry{entry("one", 1000, 1), entry("one", -7, 2), entry("one", 0, 3)}, api.OK, 0)
	wantCompact(t, e, 2)
	wantApply(t, e, []api.Entry{entry("two", 3, 1, 2), entry("one", -1000, 1), entry("three", -1, 0, 0, 0)}, api.OK, 0)
	wantCompact(t, e, 3)
	wantRegister(t, e, "a", "(X,Y):-one(X),one(Y)", "", api.OK, 0)
	wantRegister(t, e, "b", "(X):-one(X)", "", api.OK, 0)
	wantCompact(t, e, 3)
	wantApply(t, e, []api.Entry{entry("one", 1, 5), entry("one", 1, 6), entry("three", 1, 0, 0, 0)}, api.OK, 0)
	wantCompact(t, e, 4)
	wantDrop(t, e, "a", api.OK)
	wantDrop(t, e, "b", api.OK)
	wantCompact(t, e, 4)
}

func TestCompactTheMostRows(t *testing.T) {
	e := views.New()
	for i := range api.MaxRelations {
		name := string(rune('a' + i))
		wantCreate(t, e, name, 1, api.OK)
		for k := range api.MaxRows {
			wantApply(t, e, []api.Entry{entry(name, 1, int64(k))}, api.OK, 0)
		}
		wantCompact(t, e, (i+1)*api.MaxRows)
	}
	wantApply(t, e, []api.Entry{entry("a", 1, 100)}, api.ErrRows, 0)
	wantCompact(t, e, api.MaxRelations*api.MaxRows)
}

// Behind Compact, as ahead of it, views gain by what a batch changes: rows that
// are new, that grow, that turn below 0 and that go.
func TestBatchesBehindCompact(t *testing.T) {
	e := engineOfThree(t)
	wantRegister(t, e, "a", "(X,Z):-two(X,Y),two(Y,Z)", "", api.OK, 0)
	wantRegister(t, e, "b", "(Y,X):-two(X,Y)", "YX", api.OK, 0)
	for i := range int64(9) {
		wantApply(t, e, []api.Entry{entry("two", 1, i, i+1)}, api.OK, 0)
	}
	wantApply(t, e, []api.Entry{entry("two", -1, 4, 5), entry("two", 2, 7, 8)}, api.OK, 0)
	wantApply(t, e, []api.Entry{entry("two", -1, 0, 1)}, api.OK, 0)
	const before = "[{[2 1] 1} {[3 2] 1} {[4 3] 1} {[6 5] 1} {[7 6] 1} {[8 7] 3} {[9 8] 1}]"
	wantRead(t, e, "b", before)
	wantCompact(t, e, 7)
	wantRead(t, e, "a", "[{[1 3] 1} {[2 4] 1} {[5 7] 1} {[6 8] 3} {[7 9] 3}]")
	wantRead(t, e, "b", before)
	wantApply(t, e, []api.Entry{
		entry("two", -1, 1, 2), entry("two", 4, 2, 3), entry("two", -4, 7, 8), entry("two", 2, 9, 9),
	}, api.OK, 0)
	wantRead(t, e, "a", "[{[2 4] 5} {[5 7] 1} {[6 8] -1} {[7 9] -1} {[8 9] 2} {[9 9] 4}]")
	wantRead(t, e, "b", "[{[3 2] 5} {[4 3] 1} {[6 5] 1} {[7 6] 1} {[8 7] -1} {[9 8] 1} {[9 9] 2}]")
	wantCompact(t, e, 7)
}

// A batch that is refused changes as little behind Compact as ahead of it.
func TestRefusedBatchesBehindCompact(t *testing.T) {
	e := engineOfThree(t)
	wantRegister(t, e, "a", "(X):-one(X)", "", api.OK, 0)
	wantApply(t, e, lines(0, api.MaxRows), api.OK, 0)
	wantCompact(t, e, api.MaxRows)
	wantRefused(t, e, []api.Entry{entry("one", 1, 100)}, api.ErrRows, 0)
	wantRefused(t, e, []api.Entry{entry("one", 1000, 1)}, api.ErrWeight, 0)
	wantRefused(t, e, []api.Entry{entry("one", 1, 1), entry("q", 1, 1)}, api.ErrUnknown, 1)
	wantCompact(t, e, api.MaxRows)
}

// Views and relations come and go behind Compact as ahead of it.
func TestViewsBehindCompact(t *testing.T) {
	e := engineOfThree(t)
	wantRegister(t, e, "a", "(X):-one(X)", "", api.OK, 0)
	for _, x := range kindsBatch() {
		wantApply(t, e, []api.Entry{x}, api.OK, 0)
	}
	wantCompact(t, e, 11)
	wantRegister(t, e, "a", "(X):-one(X)", "", api.ErrTaken, 0)
	wantRegister(t, e, "b", "(X):-one(X),two(X,X)", "", api.OK, 0)
	wantRead(t, e, "b", "[{[2] -300}]")
	wantDrop(t, e, "a", api.OK)
	wantCompact(t, e, 11)
	wantUnread(t, e, "a")
	wantRegister(t, e, "a", "(X):-one(X)", "", api.OK, 0)
	wantRead(t, e, "a", "[{[1] 2} {[2] -3} {[3] 5}]")
	wantCreate(t, e, "one", 1, api.ErrTaken)
	wantCreate(t, e, "new", 1, api.OK)
	wantApply(t, e, []api.Entry{entry("new", 1, 1)}, api.OK, 0)
	wantCompact(t, e, 12)
}

func TestCompactOfOneEngineIsNotThatOfAnother(t *testing.T) {
	a, b := engineOfThree(t), engineOfThree(t)
	wantApply(t, a, lines(0, 5), api.OK, 0)
	wantApply(t, b, lines(0, 2), api.OK, 0)
	wantCompact(t, a, 5)
	wantCompact(t, b, 2)
	wantCompact(t, views.New(), 0)
}
