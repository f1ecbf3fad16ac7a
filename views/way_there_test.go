package views_test

import (
	"fmt"
	"slices"
	"testing"

	"views/api"
	"views/views"
)

// drawSmall has so few rows, and weights so small, that no part of it is refused.
func drawSmall(draw func(int) int) []api.Entry {
	var batch []api.Entry
	for range draw(12) {
		arity := 1 + draw(3)
		x := entry([]string{"", "one", "two", "three"}[arity], draw(7)-3)
		for range arity {
			x.Row = append(x.Row, int64(draw([]int{0, 3, 3, 2}[arity])-1))
		}
		batch = append(batch, x)
	}
	return batch
}

func shuffled(batch []api.Entry, draw func(int) int) []api.Entry {
	mixed := slices.Clone(batch)
	for i := range mixed {
		k := i + draw(len(mixed)-i)
		mixed[i], mixed[k] = mixed[k], mixed[i]
	}
	return mixed
}

// applyInParts applies a batch shuffled, in parts, with calls of Compact between them.
func applyInParts(t *testing.T, e *views.Engine, batch []api.Entry, draw func(int) int) {
	t.Helper()
	rest := shuffled(batch, draw)
	for len(rest) > 0 {
		count := 1 + draw(len(rest))
		wantApply(t, e, rest[:count], api.OK, 0)
		rest = rest[count:]
		if draw(2) == 0 {
			e.Compact()
		}
	}
}

// tellView has all that can be asked of a view.
func tellView(t *testing.T, e *views.Engine, name string, variables int) string {
	t.Helper()
	rows, wrong := e.Read(name)
	text := fmt.Sprint(rows, wrong)
	for columns := range variables + 1 {
		wantGroup(t, e, name, columns, groupByHand(e, name, columns))
		groups, wrong := e.Group(name, columns)
		text += fmt.Sprint(groups, wrong)
	}
	return text
}

// P10: one engine has whole batches and an order that it chose, the other has
// them shuffled, in parts, compacted now and then, and in an order that was
// drawn; a view that is registered behind all batches holds the same.
func TestWhatIsReadDoesNotTellTheWayThere(t *testing.T) {
	draw, filled := drawFrom(23), 0
	for range 150 {
		whole, parts := engineOfThree(t), engineOfThree(t)
		h := drawJoin(draw)
		wantRegister(t, whole, "v", h.text(), "", api.OK, 0)
		wantRegister(t, parts, "v", h.text(), h.drawOrder(draw), api.OK, 0)
		for range 12 {
			batch := drawSmall(draw)
			wantApply(t, whole, batch, api.OK, 0)
			applyInParts(t, parts, batch, draw)
			want := tellView(t, whole, "v", len(h.head))
			if got := tellView(t, parts, "v", len(h.head)); got != want {
				t.Fatalf("%s: in parts %s, whole %s", h.text(), got, want)
			}
			wantRead(t, whole, "v", h.rows(whole))
			late := string(rune('a' + draw(2)))
			wantRegister(t, parts, late, h.text(), h.drawOrder(draw), api.OK, 0)
			if got := tellView(t, parts, late, len(h.head)); got != want {
				t.Fatalf("%s: registered late %s, early %s", h.text(), got, want)
			}
			wantDrop(t, parts, late, api.OK)
			if whole.Compact() != parts.Compact() || tellAll(whole) != tellAll(parts) {
				t.Fatalf("%s: in parts %s, whole %s", h.text(), tellAll(parts), tellAll(whole))
			}
			if len(want) > 60 {
				filled++
			}
			if t.Failed() {
				t.Fatalf("with %s", h.text())
			}
		}
	}
	if filled < 500 {
		t.Errorf("the draws are too much alike: %d filled", filled)
	}
}

// An order of Register, at each kind of query with more than one variable.
func TestGroupDoesNotTellTheOrder(t *testing.T) {
	const query = "(Z,X):-two(X,Y),three(Y,Z,W),one(W),two(Y,Y)"
	for _, order := range append(orders("WXYZ"), "") {
		e := engineOfThree(t)
		wantRegister(t, e, "a", query, order, api.OK, 0)
		wantApply(t, e, kindsBatch(), api.OK, 0)
		e.Compact()
		wantRegister(t, e, "b", query, order, api.OK, 0)
		for _, view := range []string{"a", "b"} {
			wantGroup(t, e, view, 0, "[{[] -333300}]")
			wantGroup(t, e, view, 1, "[{[2] -333300}]")
			wantGroup(t, e, view, 2, "[{[2 1] -3300} {[2 2] -330000}]")
		}
	}
}
