package views

import (
	"testing"
	"unsafe"

	"views/api"
)

// P2: nothing that is handed in is kept, a name's bytes neither.
func TestCreateKeepsACopyOfTheName(t *testing.T) {
	e, name := New(), string([]byte("abc"))
	if wrong := e.Create(name, 1); wrong != api.OK {
		t.Fatalf("Create = %d", wrong)
	}
	for kept := range e.relations {
		if unsafe.StringData(kept) == unsafe.StringData(name) {
			t.Error("the name's bytes are the caller's")
		}
	}
}

func TestRegisterKeepsACopyOfTheName(t *testing.T) {
	e, name := New(), string([]byte("abc"))
	e.Create("r", 1)
	if wrong, _ := e.Register(name, "(X):-r(X)", ""); wrong != api.OK {
		t.Fatalf("Register = %d", wrong)
	}
	for kept := range e.views {
		if unsafe.StringData(kept) == unsafe.StringData(name) {
			t.Error("the name's bytes are the caller's")
		}
	}
}

// A row without a weight is not kept, however many come and go.
func TestApplyKeepsNoRowWithoutWeight(t *testing.T) {
	e := New()
	e.Create("r", 1)
	for i := range int64(1000) {
		e.Apply([]api.Entry{{Relation: "r", Row: []int64{i}, Weight: 1}})
		e.Apply([]api.Entry{{Relation: "r", Row: []int64{i}, Weight: -1}})
	}
	if kept := e.relations["r"].Len(); kept != 0 {
		t.Errorf("%d rows are kept", kept)
	}
}
