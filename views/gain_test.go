package views

import (
	"testing"

	"views/api"
	"views/relation"
)

// What a view gains: at one atom the batch, ahead of it the new rows, behind it the old ones.
func TestAroundAnAtom(t *testing.T) {
	e := New()
	e.Create("r", 1)
	e.Apply([]api.Entry{{Relation: "r", Row: []int64{1}, Weight: 100}})
	e.Register("v", "():-r(A),r(B),r(C)", "")
	for _, x := range e.indexes {
		x.Bring(relation.Weights{{2}: 11})
	}
	const old, batch, both = 100, 11, 111
	for atom, want := range [][]int64{{batch, old, old}, {both, batch, old}, {both, both, batch}} {
		sources := e.views["v"].around(atom)
		for i := range want {
			if got := sources[i].Weight(); got != want[i] {
				t.Errorf("around atom %d, atom %d has the weight %d, want %d", atom, i, got, want[i])
			}
		}
	}
}

// A batch goes only through what it changes: with nothing of it at an atom, the
// join there comes to nothing.
func TestABatchOfOtherRelationsBringsNothing(t *testing.T) {
	e := New()
	e.Create("r", 1)
	e.Create("s", 1)
	e.Apply([]api.Entry{{Relation: "r", Row: []int64{1}, Weight: 1}})
	e.Register("v", "(A,B):-r(A),r(B)", "")
	for key, x := range e.indexes {
		x.Bring(map[string]relation.Weights{"s": {{1}: 1}}[key.Relation])
	}
	for atom := range 2 {
		for row := range e.views["v"].plan.All(e.views["v"].around(atom)) {
			t.Errorf("the view gains %v", row)
		}
	}
}
