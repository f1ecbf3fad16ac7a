package join

import (
	"iter"
	"math"
	"slices"

	"views/api"
	"views/index"
)

// Row has the numbers of a head's variables. Those past the head's end stay 0:
// they tell no two rows of a view apart.
type Row [api.MaxHead]int64

// Compare is below 0, if the row comes ahead of the other, and above 0, if behind it.
func (r Row) Compare(other Row) int { return slices.Compare(r[:], other[:]) }

// First has the row's first numbers alone, so that all rows that begin so are one.
func (r Row) First(columns int) Row {
	var first Row
	copy(first[:columns], r[:])
	return first
}

// Sources are the rows that each atom has. They are an array, so that each
// number that is tried narrows a copy, and the next one starts as this one did.
type Sources [api.MaxAtoms]index.Rows

// All tells the assignments that have a weight, each by the row that it gives
// the head: a row comes as often as there are assignments that give it.
func (p *Plan) All(sources Sources) iter.Seq2[Row, int64] {
	return func(yield func(Row, int64) bool) {
		if narrowed, left := p.narrow(sources); left {
			p.tell(p.steps, narrowed, Row{}, yield)
		}
	}
}

// narrow leaves the rows that have the atoms' numbers, if there are such rows
// at each atom.
func (p *Plan) narrow(sources Sources) (narrowed Sources, left bool) {
	for i, numbers := range p.numbers {
		for _, number := range numbers {
			sources[i] = sources[i].Narrow(number)
		}
		if sources[i].Empty() {
			return sources, false
		}
	}
	return sources, true
}

// tell goes through the steps that are left; it says whether more is asked for.
func (p *Plan) tell(steps []step, sources Sources, row Row, yield func(Row, int64) bool) bool {
	if len(steps) == 0 {
		weight := p.weight(sources)
		return weight == 0 || yield(row, weight)
	}
	for number := range steps[0].numbers(sources) {
		narrowed, left := steps[0].narrow(sources, number)
		if !left {
			continue
		}
		for _, place := range steps[0].places {
			row[place] = number
		}
		if !p.tell(steps[1:], narrowed, row, yield) {
			return false
		}
	}
	return true
}

// weight is that of an assignment: with a number for each variable no atom has
// more than one row left.
func (p *Plan) weight(sources Sources) int64 {
	product := int64(1)
	for i := range p.keys {
		product *= sources[i].Weight()
	}
	return product
}

// numbers tells those that all atoms with the variable have in their next
// column, in rising order.
func (s step) numbers(sources Sources) iter.Seq[int64] {
	return func(yield func(int64) bool) {
		for from := int64(math.MinInt64); ; from++ {
			number, found := s.leastFrom(sources, from)
			if !found || !yield(number) || number == math.MaxInt64 {
				return
			}
			from = number
		}
	}
}

// leastFrom asks the atoms in turn for a number, from the one on that was found
// last: when all have answered the same, they all have it.
func (s step) leastFrom(sources Sources, from int64) (least int64, found bool) {
	least = from
	for i, same := 0, 0; same < len(s.uses); i++ {
		use := s.uses[i%len(s.uses)]
		number, found := sources[use.atom].LeastFrom(least)
		if !found {
			return 0, false
		}
		if number > least {
			least, same = number, 0
		}
		same++
	}
	return least, true
}

// narrow leaves the rows that have the number in all columns of the variable,
// if there are such rows at each of its atoms.
func (s step) narrow(sources Sources, number int64) (narrowed Sources, left bool) {
	for _, use := range s.uses {
		rows := &sources[use.atom]
		for range use.columns {
			*rows = rows.Narrow(number)
		}
		if rows.Empty() {
			return sources, false
		}
	}
	return sources, true
}
