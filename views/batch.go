package views

import (
	"views/api"
	"views/relation"
)

// checkEntry says what is wrong with an entry by itself, whatever else is in its batch.
func (e *Engine) checkEntry(entry api.Entry) api.Errno {
	r, known := e.relations[entry.Relation]
	if !known {
		return api.ErrUnknown
	}
	if len(entry.Row) != r.Arity() {
		return api.ErrArity
	}
	if entry.Weight < -api.MaxWeight || entry.Weight > api.MaxWeight {
		return api.ErrWeight
	}
	return api.OK
}

// sumByRelation adds the weights of a batch up first: only the sums must fit,
// so a weight may go too far within the batch and come back.
func sumByRelation(batch []api.Entry) map[string]relation.Weights {
	changes := map[string]relation.Weights{}
	for _, entry := range batch {
		change, begun := changes[entry.Relation]
		if !begun {
			change = relation.Weights{}
			changes[entry.Relation] = change
		}
		change.Add(relation.RowOf(entry.Row), int64(entry.Weight))
	}
	return changes
}

// checkChanges asks all relations for weights before any for rows: a weight that
// is wrong anywhere comes ahead of too many rows, in whatever order the map is gone through.
func (e *Engine) checkChanges(changes map[string]relation.Weights) api.Errno {
	for name, change := range changes {
		if !e.relations[name].WeightsFit(change) {
			return api.ErrWeight
		}
	}
	for name, change := range changes {
		if !e.relations[name].RowsFit(change) {
			return api.ErrRows
		}
	}
	return api.OK
}

// add brings the change to all that is kept of the relations. The indexes have
// the rows without it and those with it until every view has gained by it.
func (e *Engine) add(changes map[string]relation.Weights) {
	for key, x := range e.indexes {
		x.Bring(changes[key.Relation])
	}
	for _, v := range e.views {
		v.gain()
	}
	for _, x := range e.indexes {
		x.Settle()
	}
	for name, change := range changes {
		e.relations[name].Add(change)
	}
}
