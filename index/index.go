// Package index: the rows of a relation in sorted runs, with the columns in the
// order in which a join goes through them.
package index

import (
	"iter"
	"maps"
	"slices"

	"views/api"
	"views/relation"
)

// Columns is an order of columns. It lists those past a relation's arity too,
// which are the same in all of its rows.
type Columns [api.MaxArity]int

func (c Columns) arrange(row relation.Row) relation.Row {
	var arranged relation.Row
	for i, column := range c {
		arranged[i] = row[column]
	}
	return arranged
}

// Key is what an index is called by: atoms of the same relation that need the
// same order of columns share one, whatever view they are of.
type Key struct {
	Relation string
	Columns  Columns
}

// Index has a relation's rows. While a batch comes in, its run stands apart,
// so that the rows without it and those with it can both be asked for.
type Index struct {
	columns Columns
	runs    []run
	batch   run
}

// New makes an index of a relation's rows.
func New(columns Columns, rows iter.Seq2[relation.Row, int64]) *Index {
	x := &Index{columns: columns, batch: runOf(columns, rows)}
	x.Settle()
	return x
}

// Bring takes what a batch adds to the relation.
func (x *Index) Bring(change relation.Weights) {
	x.batch = runOf(x.columns, maps.All(change))
}

// Old are the rows without the batch.
func (x *Index) Old() Rows { return rowsOf(x.runs...) }

// Batch is what the batch brings.
func (x *Index) Batch() Rows { return rowsOf(x.batch) }

// New are the rows with the batch.
func (x *Index) New() Rows {
	rows := x.Old()
	rows.add(x.batch)
	return rows
}

// Settle makes the batch a run like the others. Were there no end of runs, an
// index would grow with each batch, though its relation did not: so runs are
// merged until each is more than twice as long as the next.
func (x *Index) Settle() {
	added := x.batch
	x.batch = nil
	for last := len(x.runs) - 1; last >= 0 && len(x.runs[last]) <= 2*len(added); last-- {
		added = merge(x.runs[last], added)
		x.runs = slices.Delete(x.runs, last, last+1)
	}
	x.add(added)
}

// Compact makes one run of all.
func (x *Index) Compact() {
	var all run
	for _, each := range x.runs {
		all = merge(all, each)
	}
	x.runs = nil
	x.add(all)
}

func (x *Index) add(added run) {
	if len(added) > 0 {
		x.runs = append(x.runs, added)
	}
}
