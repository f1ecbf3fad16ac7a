// Package views: joins that are kept up to date, batch by batch: see DOC.md.
package views

import (
	"strings"

	"views/api"
	"views/index"
	"views/join"
	"views/relation"
	"views/sums"
)

// Engine: relations, views of them, and the indexes that the views go through.
type Engine struct {
	relations map[string]*relation.Relation
	indexes   map[index.Key]*index.Index
	views     map[string]*view
}

// New makes an engine.
func New() *Engine {
	return &Engine{
		relations: map[string]*relation.Relation{},
		indexes:   map[index.Key]*index.Index{},
		views:     map[string]*view{},
	}
}

// Create makes a relation (P3).
func (e *Engine) Create(name string, arity int) api.Errno {
	if !isName(name) {
		return api.ErrName
	}
	if arity < 1 || arity > api.MaxArity {
		return api.ErrArity
	}
	if _, taken := e.relations[name]; taken {
		return api.ErrTaken
	}
	if len(e.relations) >= api.MaxRelations {
		return api.ErrLimit
	}
	// The name may be a piece of a long text, which would be kept with it.
	e.relations[strings.Clone(name)] = relation.New(arity)
	return api.OK
}

// Register makes a view (P4).
func (e *Engine) Register(name string, query string, order string) (api.Errno, int) {
	if wrong := e.checkNewView(name, query); wrong != api.OK {
		return wrong, 0
	}
	read, err := e.readQuery(query)
	if wrong, place := faultOf(err); wrong != api.OK {
		return wrong, place
	}
	if !read.OrderFits(order) {
		return api.ErrOrder, 0
	}
	// The name may be a piece of a long text, which would be kept with it.
	e.views[strings.Clone(name)] = e.newView(read, order)
	return api.OK, 0
}

// Drop takes a view away (P5).
func (e *Engine) Drop(name string) api.Errno {
	if _, known := e.views[name]; !known {
		return api.ErrUnknown
	}
	delete(e.views, name)
	e.dropIndexes()
	return api.OK
}

// Apply adds a batch (P6).
func (e *Engine) Apply(batch []api.Entry) (api.Errno, int) {
	if len(batch) > api.MaxBatch {
		return api.ErrLimit, 0
	}
	for i, entry := range batch {
		if wrong := e.checkEntry(entry); wrong != api.OK {
			return wrong, i
		}
	}
	changes := sumByRelation(batch)
	if wrong := e.checkChanges(changes); wrong != api.OK {
		return wrong, 0
	}
	e.add(changes)
	return api.OK, 0
}

// Compact makes one run of many (P9).
func (e *Engine) Compact() int {
	for _, x := range e.indexes {
		x.Compact()
	}
	count := 0
	for _, r := range e.relations {
		count += r.Len()
	}
	return count
}

// Rows tells a relation's rows (P7).
func (e *Engine) Rows(relation string) ([]api.Row, api.Errno) {
	r, known := e.relations[relation]
	if !known {
		return nil, api.ErrUnknown
	}
	rows := make([]api.Row, 0, r.Len())
	for row, weight := range r.All() {
		rows = append(rows, newRow(row[:r.Arity()], weight))
	}
	return rows, api.OK
}

// Read tells a view's rows (P7).
func (e *Engine) Read(view string) ([]api.Row, api.Errno) {
	v, known := e.views[view]
	if !known {
		return nil, api.ErrUnknown
	}
	return tell(v.weights, v.columns), api.OK
}

// Group tells a view's sums (P8).
func (e *Engine) Group(view string, columns int) ([]api.Row, api.Errno) {
	v, known := e.views[view]
	if !known {
		return nil, api.ErrUnknown
	}
	if columns < 0 || columns > v.columns {
		return nil, api.ErrArity
	}
	return tell(v.group(columns), columns), api.OK
}

// tell has the rows in order, each with as many numbers as there are columns.
func tell(weights sums.Sums[join.Row], columns int) []api.Row {
	rows := make([]api.Row, 0, len(weights))
	for row, weight := range weights.All() {
		rows = append(rows, newRow(row[:columns], weight))
	}
	return rows
}

// newRow has Values of its own: owners may write into them, and append.
func newRow(numbers []int64, weight int64) api.Row {
	values := make([]int64, len(numbers))
	copy(values, numbers)
	return api.Row{Values: values, Weight: weight}
}
