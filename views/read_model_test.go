package views_test

import (
	"fmt"
	"slices"
	"strconv"
	"strings"
	"testing"

	"views/api"
	"views/views"
)

// part is an atom; its terms are texts, as they stand in the query.
type part struct {
	relation string
	terms    []string
}

// handJoin is a query and what a view of it holds, found by going through all
// rows of all atoms, with none of the program's means.
type handJoin struct {
	head  []string
	parts []part
}

func (h handJoin) text() string {
	var atoms []string
	for _, p := range h.parts {
		atoms = append(atoms, p.relation+"("+strings.Join(p.terms, ",")+")")
	}
	return "(" + strings.Join(h.head, ",") + "):-" + strings.Join(atoms, ",")
}

func (h handJoin) variables() []string {
	var found []string
	for _, p := range h.parts {
		for _, term := range p.terms {
			if term >= "A" && !slices.Contains(found, term) {
				found = append(found, term)
			}
		}
	}
	return found
}

// matched says whether the terms can be the row's numbers, and gives the
// variables their numbers.
func matched(p part, row []int64, given map[string]int64) bool {
	for i, term := range p.terms {
		want, known := given[term]
		if term < "A" {
			want, _ = strconv.ParseInt(term, 10, 64)
			known = true
		}
		if known && want != row[i] {
			return false
		}
		given[term] = row[i]
	}
	return true
}

func (h handJoin) rows(e *views.Engine) string {
	found := []api.Row{}
	var try func(parts []part, given map[string]int64, weight int64)
	try = func(parts []part, given map[string]int64, weight int64) {
		if len(parts) == 0 {
			values := []int64{}
			for _, variable := range h.head {
				values = append(values, given[variable])
			}
			at := slices.IndexFunc(found, func(r api.Row) bool { return slices.Equal(r.Values, values) })
			if at < 0 {
				found = append(found, api.Row{Values: values, Weight: weight})
				return
			}
			found[at].Weight += weight
			return
		}
		rows, _ := e.Rows(parts[0].relation)
		for _, row := range rows {
			with := map[string]int64{}
			for variable, number := range given {
				with[variable] = number
			}
			if matched(parts[0], row.Values, with) {
				try(parts[1:], with, weight*row.Weight)
			}
		}
	}
	try(h.parts, map[string]int64{}, 1)
	found = slices.DeleteFunc(found, func(r api.Row) bool { return r.Weight == 0 })
	slices.SortFunc(found, func(a, b api.Row) int { return slices.Compare(a.Values, b.Values) })
	return fmt.Sprint(found)
}

// drawJoin leans to few letters, so that atoms have variables in common.
func drawJoin(draw func(int) int) handJoin {
	var h handJoin
	for range 1 + draw(api.MaxAtoms) {
		arity := 1 + draw(3)
		p := part{relation: []string{"", "one", "two", "three"}[arity]}
		for range arity {
			term := string(rune('A' + draw(3) + draw(3)))
			if draw(6) == 0 {
				term = []string{"0", "-1", "-001", "1", "-0"}[draw(5)]
			}
			p.terms = append(p.terms, term)
		}
		h.parts = append(h.parts, p)
	}
	if variables := h.variables(); len(variables) > 0 {
		for range draw(api.MaxHead + 1) {
			h.head = append(h.head, variables[draw(len(variables))])
		}
	}
	return h
}

func (h handJoin) drawOrder(draw func(int) int) string {
	letters, order := h.variables(), ""
	if draw(3) == 0 {
		return ""
	}
	for len(letters) > 0 {
		at := draw(len(letters))
		order += letters[at]
		letters = slices.Delete(letters, at, at+1)
	}
	return order
}

// drawChange has rows of few numbers; every third entry takes a row away that is there.
func drawChange(e *views.Engine, draw func(int) int) []api.Entry {
	var batch []api.Entry
	for range draw(24) {
		arity := 1 + draw(3)
		x := entry([]string{"", "one", "two", "three"}[arity], draw(7)-3)
		rows, _ := e.Rows(x.Relation)
		if len(rows) > 0 && draw(3) == 0 {
			row := rows[draw(len(rows))]
			x.Row, x.Weight = row.Values, -int(row.Weight)
		} else {
			for range arity {
				x.Row = append(x.Row, int64(draw(3)-1))
			}
		}
		batch = append(batch, x)
	}
	return batch
}

// Views that come and go between batches always hold what a join by hand of
// the rows comes to; so they do behind a batch that is refused.
func TestReadIsAsAJoinByHand(t *testing.T) {
	draw := drawFrom(11)
	refused, filled := 0, 0
	for range 60 {
		e, joins := engineOfThree(t), map[string]handJoin{}
		for range 25 {
			name := string(rune('a' + draw(4)))
			if _, there := joins[name]; there && draw(5) == 0 {
				wantDrop(t, e, name, api.OK)
				delete(joins, name)
			} else if !there && draw(2) == 0 {
				h := drawJoin(draw)
				wantRegister(t, e, name, h.text(), h.drawOrder(draw), api.OK, 0)
				joins[name] = h
			}
			if wrong, _ := e.Apply(drawChange(e, draw)); wrong != api.OK {
				refused++
			}
			for name, h := range joins {
				want := h.rows(e)
				wantRead(t, e, name, want)
				if len(want) > 40 {
					filled++
				}
				if t.Failed() {
					t.Fatalf("with %s", h.text())
				}
			}
		}
	}
	if refused < 10 || filled < 500 {
		t.Errorf("the draws are too much alike: %d refused, %d filled", refused, filled)
	}
}
