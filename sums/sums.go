// Package sums: weights that are added up, row by row.
package sums

import (
	"iter"
	"maps"
	"slices"
)

// Ordered is what every kind of row is: compared by value, so that it is the
// key of a map, and in an order of its own, in which it is told.
type Ordered[R any] interface {
	comparable
	Compare(other R) int
}

// Sums has the rows whose weight is not 0, and no others: so its length is
// the number of rows.
type Sums[R Ordered[R]] map[R]int64

// Add adds to the weight of one row.
func (s Sums[R]) Add(row R, weight int64) {
	sum := s[row] + weight
	if sum == 0 {
		delete(s, row)
		return
	}
	s[row] = sum
}

// All tells the rows in order, each with its weight.
func (s Sums[R]) All() iter.Seq2[R, int64] {
	return func(yield func(R, int64) bool) {
		for _, row := range slices.SortedFunc(maps.Keys(s), R.Compare) {
			if !yield(row, s[row]) {
				return
			}
		}
	}
}
