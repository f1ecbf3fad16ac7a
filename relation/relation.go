// Package relation: rows as values, and the weight that each has in a relation.
package relation

import (
	"iter"
	"slices"

	"views/api"
	"views/sums"
)

// Row is an array, so that rows are compared by value and are the keys of maps.
// The numbers past a relation's arity stay 0: they tell no two of its rows apart.
type Row [api.MaxArity]int64

// RowOf copies the numbers, so that the row shares no memory with them.
func RowOf(numbers []int64) Row {
	var row Row
	copy(row[:], numbers)
	return row
}

// Compare is below 0, if the row comes ahead of the other, and above 0, if behind it.
func (r Row) Compare(other Row) int { return slices.Compare(r[:], other[:]) }

// Weights are those that a relation's rows have, or that a batch adds to them.
type Weights = sums.Sums[Row]

// Relation is an arity, and the weights of rows with that many numbers.
type Relation struct {
	arity   int
	weights Weights
}

// New makes a relation without a row.
func New(arity int) *Relation {
	return &Relation{arity: arity, weights: Weights{}}
}

// Arity is how many numbers each row has.
func (r *Relation) Arity() int { return r.arity }

// WeightsFit says whether, with the change added, each weight is one that may be.
func (r *Relation) WeightsFit(change Weights) bool {
	for row, weight := range change {
		sum := r.weights[row] + weight
		if sum < -api.MaxWeight || sum > api.MaxWeight {
			return false
		}
	}
	return true
}

// RowsFit says whether, with the change added, there are no more rows than may be.
func (r *Relation) RowsFit(change Weights) bool {
	count := len(r.weights)
	for row, weight := range change {
		old := r.weights[row]
		switch {
		case old == 0 && weight != 0:
			count++
		case old != 0 && old+weight == 0:
			count--
		}
	}
	return count <= api.MaxRows
}

// Add adds the change, whether it fits or not: the caller asks first, since
// a batch changes all its relations or none.
func (r *Relation) Add(change Weights) {
	for row, weight := range change {
		r.weights.Add(row, weight)
	}
}

// Len is how many rows there are.
func (r *Relation) Len() int { return len(r.weights) }

// All tells the rows in order, each with its weight.
func (r *Relation) All() iter.Seq2[Row, int64] { return r.weights.All() }
