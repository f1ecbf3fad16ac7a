package index

import (
	"iter"
	"slices"
	"sort"

	"views/relation"
)

// entry is a row, its numbers in the order of an index's columns, and its weight.
type entry struct {
	row    relation.Row
	weight int64
}

func (e entry) compare(other entry) int { return e.row.Compare(other.row) }

// run has rows in order, each once, none with the weight 0.
type run []entry

// runOf takes rows in any order, each once: sorted, they do not tell which it was.
func runOf(columns Columns, rows iter.Seq2[relation.Row, int64]) run {
	var made run
	for row, weight := range rows {
		made = append(made, entry{row: columns.arrange(row), weight: weight})
	}
	slices.SortFunc(made, entry.compare)
	return made
}

// merge makes one run of two. A row of both has the sum of its weights, and is
// gone if that is 0.
func merge(a, b run) run {
	merged := make(run, 0, len(a)+len(b))
	for len(a) > 0 && len(b) > 0 {
		switch order := a[0].compare(b[0]); {
		case order < 0:
			merged, a = append(merged, a[0]), a[1:]
		case order > 0:
			merged, b = append(merged, b[0]), b[1:]
		default:
			if sum := a[0].weight + b[0].weight; sum != 0 {
				merged = append(merged, entry{row: a[0].row, weight: sum})
			}
			a, b = a[1:], b[1:]
		}
	}
	return append(append(merged, a...), b...)
}

// from is the rest of a run whose rows are the same ahead of the column: the
// rows that have at least that number there.
func (r run) from(column int, number int64) run {
	return r[sort.Search(len(r), func(i int) bool { return r[i].row[column] >= number }):]
}

// upTo is the part of such a run whose rows have at most that number there.
func (r run) upTo(column int, number int64) run {
	return r[:sort.Search(len(r), func(i int) bool { return r[i].row[column] > number })]
}
