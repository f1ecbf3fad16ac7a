package index

// Rows are those of some runs, narrowed to the ones that have certain numbers
// in the first columns. A row may stand in several of the runs: its weight is
// the sum of all.
type Rows struct {
	runs   []run // none of them empty
	column int   // the first that is not narrowed yet
}

func rowsOf(runs ...run) Rows {
	var rows Rows
	for _, r := range runs {
		rows.add(r)
	}
	return rows
}

func (r *Rows) add(added run) {
	if len(added) > 0 {
		r.runs = append(r.runs, added)
	}
}

// Empty says that there is no row.
func (r Rows) Empty() bool { return len(r.runs) == 0 }

// LeastFrom is the least number in the next column that is not less than from,
// if there is one.
func (r Rows) LeastFrom(from int64) (least int64, found bool) {
	for _, each := range r.runs {
		rest := each.from(r.column, from)
		if len(rest) == 0 {
			continue
		}
		if number := rest[0].row[r.column]; !found || number < least {
			least, found = number, true
		}
	}
	return least, found
}

// Narrow leaves the rows that have that number in the next column.
func (r Rows) Narrow(number int64) Rows {
	narrowed := Rows{column: r.column + 1}
	for _, each := range r.runs {
		narrowed.add(each.from(r.column, number).upTo(r.column, number))
	}
	return narrowed
}

// Weight is the sum of all weights.
func (r Rows) Weight() int64 {
	sum := int64(0)
	for _, each := range r.runs {
		for _, entry := range each {
			sum += entry.weight
		}
	}
	return sum
}
