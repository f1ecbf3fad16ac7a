package views

import (
	"reflect"
	"testing"
	"unsafe"

	"views/api"
)

// P2: nothing that is handed in is kept, a name's bytes neither.
func TestCreateKeepsACopyOfTheName(t *testing.T) {
	e, name := New(), string([]byte("abc"))
	if wrong := e.Create(name, 1); wrong != api.OK {
		t.Fatalf("Create = %d", wrong)
	}
	for kept := range e.relations {
		if unsafe.StringData(kept) == unsafe.StringData(name) {
			t.Error("the name's bytes are the caller's")
		}
	}
}

func TestRegisterKeepsACopyOfTheName(t *testing.T) {
	e, name := New(), string([]byte("abc"))
	e.Create("r", 1)
	if wrong, _ := e.Register(name, "(X):-r(X)", ""); wrong != api.OK {
		t.Fatalf("Register = %d", wrong)
	}
	for kept := range e.views {
		if unsafe.StringData(kept) == unsafe.StringData(name) {
			t.Error("the name's bytes are the caller's")
		}
	}
}

// A row without a weight is not kept, however many come and go.
func TestApplyKeepsNoRowWithoutWeight(t *testing.T) {
	e := New()
	e.Create("r", 1)
	for i := range int64(1000) {
		e.Apply([]api.Entry{{Relation: "r", Row: []int64{i}, Weight: 1}})
		e.Apply([]api.Entry{{Relation: "r", Row: []int64{i}, Weight: -1}})
	}
	if kept := e.relations["r"].Len(); kept != 0 {
		t.Errorf("%d rows are kept", kept)
	}
}

// A view keeps the names of its atoms' relations, but not the query's text.
func TestRegisterKeepsNoPieceOfTheQuery(t *testing.T) {
	e, text := New(), string([]byte("(X):-abc(X),abc(7)"))
	e.Create("abc", 1)
	if wrong, _ := e.Register("v", text, ""); wrong != api.OK {
		t.Fatalf("Register = %d", wrong)
	}
	begin := uintptr(unsafe.Pointer(unsafe.StringData(text)))
	inText := func(name string) bool {
		at := uintptr(unsafe.Pointer(unsafe.StringData(name)))
		return at >= begin && at < begin+uintptr(len(text))
	}
	for key := range e.indexes {
		if inText(key.Relation) {
			t.Error("an index is called by a piece of the query")
		}
	}
	for _, key := range e.views["v"].plan.Keys() {
		if inText(key.Relation) {
			t.Error("a plan has a piece of the query")
		}
	}
}

// Indexes are shared, and stay only as long as a view goes through them.
func TestIndexesComeAndGoWithTheirViews(t *testing.T) {
	e := New()
	e.Create("r", 2)
	e.Create("s", 2)
	want := func(count int) {
		t.Helper()
		if len(e.indexes) != count {
			t.Errorf("there are %d indexes, want %d", len(e.indexes), count)
		}
	}
	e.Register("a", "(X,Y):-r(X,Y),r(Y,X)", "XY")
	want(2)
	e.Register("b", "(X,Y):-r(X,Y),s(X,Y)", "XY")
	want(3)
	e.Register("c", "(X,Y):-r(X,Y)", "YXX")
	e.Register("c", "(X,Y):-r(X,Y),q(X)", "")
	want(3)
	e.Drop("a")
	want(2)
	e.Drop("a")
	want(2)
	e.Drop("b")
	want(0)
}

// A row of a view whose weight came to 0 is not kept, however many come and go.
func TestViewsKeepNoRowWithoutWeight(t *testing.T) {
	e := New()
	e.Create("r", 1)
	e.Register("v", "(X,Y):-r(X),r(Y)", "")
	for i := range int64(1000) {
		e.Apply([]api.Entry{{Relation: "r", Row: []int64{i}, Weight: 1}})
		e.Apply([]api.Entry{{Relation: "r", Row: []int64{i}, Weight: -1}})
	}
	if kept := len(e.views["v"].weights); kept != 0 {
		t.Errorf("%d rows are kept", kept)
	}
	for _, x := range e.indexes {
		if !x.New().Empty() {
			t.Error("an index has rows")
		}
	}
}

// Compact makes one run of many, in each index, whatever view it is of. How
// many runs there are can be seen from nowhere else.
func TestCompactLeavesOneRunToEachIndex(t *testing.T) {
	e := New()
	e.Create("r", 2)
	e.Create("s", 1)
	e.Register("a", "(X,Y):-r(X,Y),r(Y,X)", "XY")
	e.Register("b", "(X):-s(X)", "")
	for _, count := range []int64{9, 4, 1} {
		for i := range count {
			e.Apply([]api.Entry{{Relation: "r", Row: []int64{i, count}, Weight: 1}, {Relation: "s", Row: []int64{i}, Weight: 1}})
		}
	}
	runs := func() (least, most int) {
		least = 100
		for _, x := range e.indexes {
			count := reflect.ValueOf(x).Elem().FieldByName("runs").Len()
			least, most = min(least, count), max(most, count)
		}
		return least, most
	}
	if least, _ := runs(); len(e.indexes) != 3 || least < 2 {
		t.Fatalf("there are %d indexes, one with %d runs", len(e.indexes), least)
	}
	e.Compact()
	if least, most := runs(); least != 1 || most != 1 {
		t.Errorf("there are %d to %d runs", least, most)
	}
}
