package views

import (
	"iter"
	"maps"
	"slices"

	"views/index"
	"views/join"
	"views/query"
	"views/sums"
)

// view has its rows and their weights, and what it needs to gain by a batch.
type view struct {
	plan    *join.Plan
	indexes []*index.Index // for each atom
	columns int
	weights sums.Sums[join.Row]
}

// newView makes a view of a query that is right. It holds what is there already.
func (e *Engine) newView(q *query.Query, order string) *view {
	v := &view{
		plan:    join.NewPlan(q, order),
		columns: len(q.Head),
		weights: sums.Sums[join.Row]{},
	}
	var sources join.Sources
	for i, key := range v.plan.Keys() {
		x := e.indexOf(key)
		v.indexes = append(v.indexes, x)
		sources[i] = x.Old()
	}
	v.add(v.plan.All(sources))
	return v
}

func (v *view) add(rows iter.Seq2[join.Row, int64]) {
	for row, weight := range rows {
		v.weights.Add(row, weight)
	}
}

// gain adds what a batch brings that the indexes have not settled yet.
func (v *view) gain() {
	for atom := range v.indexes {
		v.add(v.plan.All(v.around(atom)))
	}
}

// around has the batch at one atom. With the new rows at the atoms ahead of it
// and the old rows at those behind it, each assignment that the batch changes
// counts once, however many of its rows are in the batch.
func (v *view) around(atom int) join.Sources {
	var sources join.Sources
	for i, x := range v.indexes {
		switch {
		case i < atom:
			sources[i] = x.New()
		case i == atom:
			sources[i] = x.Batch()
		default:
			sources[i] = x.Old()
		}
	}
	return sources
}

// group adds up the rows that begin with the same numbers, in any order: the
// sums are the same.
func (v *view) group(columns int) sums.Sums[join.Row] {
	groups := sums.Sums[join.Row]{}
	for row, weight := range v.weights {
		groups.Add(row.First(columns), weight)
	}
	return groups
}

// indexOf finds an index, or makes it.
func (e *Engine) indexOf(key index.Key) *index.Index {
	x, known := e.indexes[key]
	if !known {
		x = index.New(key.Columns, e.relations[key.Relation].All())
		e.indexes[key] = x
	}
	return x
}

// dropIndexes takes away those that no view goes through any more.
func (e *Engine) dropIndexes() {
	maps.DeleteFunc(e.indexes, func(key index.Key, _ *index.Index) bool {
		for _, v := range e.views {
			if slices.Contains(v.plan.Keys(), key) {
				return false
			}
		}
		return true
	})
}
