package views_test

import (
	"fmt"
	"maps"
	"math"
	"strings"
	"testing"

	"views/api"
)

// lines of one column, with the weight 1 each.
func lines(from, count int) []api.Entry {
	var batch []api.Entry
	for i := range count {
		batch = append(batch, entry("one", 1, int64(from+i)))
	}
	return batch
}

func TestApplyAddsWeights(t *testing.T) {
	e := engineOfThree(t)
	wantApply(t, e, nil, api.OK, 0)
	wantApply(t, e, []api.Entry{}, api.OK, 0)
	wantApply(t, e, []api.Entry{
		entry("two", 1, 2, 3), entry("one", -4, 7), entry("two", 2, 1, 9),
		entry("three", 5, 1, 2, 3), entry("two", 3, 2, 3),
	}, api.OK, 0)
	wantRows(t, e, "one", "[{[7] -4}]")
	wantRows(t, e, "two", "[{[1 9] 2} {[2 3] 4}]")
	wantRows(t, e, "three", "[{[1 2 3] 5}]")
	wantApply(t, e, []api.Entry{entry("two", -4, 2, 3), entry("one", 5, 7)}, api.OK, 0)
	wantRows(t, e, "one", "[{[7] 1}]")
	wantRows(t, e, "two", "[{[1 9] 2}]")
}

func TestApplyOfNoughtMakesNoRow(t *testing.T) {
	e := engineOfThree(t)
	wantApply(t, e, []api.Entry{entry("one", 0, 5), entry("two", 6, 1, 1), entry("two", -6, 1, 1)}, api.OK, 0)
	wantRows(t, e, "one", "[]")
	wantRows(t, e, "two", "[]")
}

func TestApplyLimit(t *testing.T) {
	e := engineOfThree(t)
	full := make([]api.Entry, api.MaxBatch)
	for i := range full {
		full[i] = entry("one", 2, 5)
	}
	wantRefused(t, e, append(full[:api.MaxBatch:api.MaxBatch], entry("one", 2, 5)), api.ErrLimit, 0)
	wantRefused(t, e, make([]api.Entry, 100000), api.ErrLimit, 0)
	wantApply(t, e, full, api.OK, 0)
	wantRows(t, e, "one", "[{[5] 128}]")
}

func TestApplyWrongEntry(t *testing.T) {
	e := engineOfThree(t)
	good := entry("one", 1, 1)
	for _, c := range []struct {
		bad  api.Entry
		want api.Errno
	}{
		{api.Entry{}, api.ErrUnknown},
		{entry("q", 1, 1), api.ErrUnknown},
		{entry("ONE", 1, 1), api.ErrUnknown},
		{entry("one ", 1, 1), api.ErrUnknown},
		{entry("q", 1001, 1, 2, 3, 4), api.ErrUnknown},
		{entry("one", 1), api.ErrArity},
		{entry("one", 1, 1, 2), api.ErrArity},
		{entry("two", 1, 1), api.ErrArity},
		{entry("two", 1, 1, 2, 0), api.ErrArity},
		{entry("three", 1, 1, 2), api.ErrArity},
		{entry("three", 1, 1, 2, 3, 4), api.ErrArity},
		{entry("three", 1, make([]int64, 1000)...), api.ErrArity},
		{entry("two", 1001, 1), api.ErrArity},
		{entry("one", 1001, 1), api.ErrWeight},
		{entry("one", -1001, 1), api.ErrWeight},
		{entry("one", math.MaxInt, 1), api.ErrWeight},
		{entry("one", math.MinInt, 1), api.ErrWeight},
	} {
		wantRefused(t, e, []api.Entry{c.bad}, c.want, 0)
		wantRefused(t, e, []api.Entry{good, c.bad}, c.want, 1)
		wantRefused(t, e, []api.Entry{good, good, c.bad, good}, c.want, 2)
	}
}

func TestApplyFirstWrongEntryWins(t *testing.T) {
	e := engineOfThree(t)
	unknown, arity, weight := entry("q", 1, 1), entry("one", 1), entry("one", 1001, 1)
	good := entry("one", 1, 1)
	wantRefused(t, e, []api.Entry{weight, arity, unknown}, api.ErrWeight, 0)
	wantRefused(t, e, []api.Entry{good, arity, weight, unknown}, api.ErrArity, 1)
	wantRefused(t, e, []api.Entry{good, good, unknown, arity}, api.ErrUnknown, 2)
	// An entry comes ahead of the sums, wherever it stands.
	heavy := entry("one", 1000, 1)
	wantRefused(t, e, []api.Entry{heavy, heavy, unknown}, api.ErrUnknown, 2)
	wantRefused(t, e, append(lines(0, 17), arity), api.ErrArity, 17)
}

func TestApplyLastEntryOfAFullBatch(t *testing.T) {
	e := engineOfThree(t)
	batch := make([]api.Entry, api.MaxBatch)
	for i := range batch {
		batch[i] = entry("one", 1, 1)
	}
	batch[api.MaxBatch-1].Weight = 1001
	wantRefused(t, e, batch, api.ErrWeight, api.MaxBatch-1)
}

func TestApplySumOfWeights(t *testing.T) {
	e := engineOfThree(t)
	wantApply(t, e, []api.Entry{entry("one", 1000, 1), entry("one", -1000, 2)}, api.OK, 0)
	wantRefused(t, e, []api.Entry{entry("one", 1, 1)}, api.ErrWeight, 0)
	wantRefused(t, e, []api.Entry{entry("one", -1, 2)}, api.ErrWeight, 0)
	wantRefused(t, e, []api.Entry{entry("two", 1, 1, 1), entry("one", 1, 1)}, api.ErrWeight, 0)
	wantRefused(t, e, []api.Entry{entry("two", 600, 1, 1), entry("two", 401, 1, 1)}, api.ErrWeight, 0)
	wantRefused(t, e, []api.Entry{entry("two", -600, 1, 1), entry("two", -401, 1, 1)}, api.ErrWeight, 0)
	// Rows that differ, and relations that differ, are not added together.
	wantApply(t, e, []api.Entry{
		entry("two", 1000, 1, 0), entry("two", 1000, 0, 1), entry("three", 1000, 1, 0, 0),
	}, api.OK, 0)
	wantRows(t, e, "two", "[{[0 1] 1000} {[1 0] 1000}]")
}

func TestApplyCountsOnlyTheWholeBatch(t *testing.T) {
	e := engineOfThree(t)
	wantApply(t, e, []api.Entry{entry("one", 1000, 1)}, api.OK, 0)
	wantApply(t, e, []api.Entry{entry("one", 5, 1), entry("one", -6, 1)}, api.OK, 0)
	wantApply(t, e, []api.Entry{entry("one", -1000, 2), entry("one", -1000, 2), entry("one", 1000, 2)}, api.OK, 0)
	wantRows(t, e, "one", "[{[1] 999} {[2] -1000}]")
	// From one edge to the other takes more than one entry may say.
	wantApply(t, e, []api.Entry{entry("one", 1000, 2), entry("one", 1000, 2)}, api.OK, 0)
	wantRows(t, e, "one", "[{[1] 999} {[2] 1000}]")
}

func TestApplyTooManyRows(t *testing.T) {
	e := engineOfThree(t)
	wantRefused(t, e, lines(0, api.MaxRows+1), api.ErrRows, 0)
	wantApply(t, e, lines(0, api.MaxRows), api.OK, 0)
	wantRefused(t, e, lines(100, 1), api.ErrRows, 0)
	wantRefused(t, e, []api.Entry{entry("two", 1, 1, 1), entry("one", 1, 100)}, api.ErrRows, 0)
	// Its rows may still change, other relations have room of their own.
	wantApply(t, e, []api.Entry{entry("one", 4, 3), entry("two", 1, 1, 1)}, api.OK, 0)
	wantApply(t, e, []api.Entry{entry("one", 1, 100), entry("one", -1, 100), entry("one", 0, 101)}, api.OK, 0)
	// Rows with a weight below 0 are rows.
	wantApply(t, e, []api.Entry{entry("one", -2, 0)}, api.OK, 0)
	wantRefused(t, e, []api.Entry{entry("one", -1, 100)}, api.ErrRows, 0)
	// A new row ahead of the one that makes room for it.
	wantApply(t, e, []api.Entry{entry("one", 1, 100), entry("one", 1, 0)}, api.OK, 0)
	rows, _ := e.Rows("one")
	if len(rows) != api.MaxRows || rows[15].Values[0] != 100 || rows[0].Values[0] != 1 {
		t.Errorf("Rows(one) = %v", rows)
	}
}

func TestApplyWholeRowsMayChangeAtOnce(t *testing.T) {
	e := engineOfThree(t)
	wantApply(t, e, lines(0, api.MaxRows), api.OK, 0)
	batch := lines(100, api.MaxRows)
	for i := range api.MaxRows {
		batch = append(batch, entry("one", -1, int64(i)))
	}
	wantApply(t, e, batch, api.OK, 0)
	rows, _ := e.Rows("one")
	if len(rows) != api.MaxRows || rows[0].Values[0] != 100 {
		t.Errorf("Rows(one) = %v", rows)
	}
}

// P1: a weight that is wrong anywhere comes ahead of too many rows anywhere;
// often, since the order in which a map is gone through must not be seen.
func TestApplyWeightAheadOfRows(t *testing.T) {
	for range 50 {
		e := engineOfThree(t)
		batch := append(lines(0, api.MaxRows+1), entry("two", 1000, 1, 1), entry("two", 1, 1, 1))
		wantRefused(t, e, batch, api.ErrWeight, 0)
		batch = append(lines(0, api.MaxRows+1), entry("one", 1000, 3))
		wantRefused(t, e, batch, api.ErrWeight, 0)
	}
}

func TestApplyExamples(t *testing.T) {
	e := engineOfThree(t)
	wantRefused(t, e, []api.Entry{entry("one", 1, 1, 2), entry("one", 1001, 1)}, api.ErrArity, 0)
	wantRefused(t, e, []api.Entry{entry("one", 1000, 1), entry("one", 1, 1)}, api.ErrWeight, 0)
}

// model has the weights by the row's text, and none of the program's means.
type model map[string]int

func textOf(x api.Entry) string { return fmt.Sprint(x.Relation, x.Row) }

func (m model) with(batch []api.Entry) model {
	sums := maps.Clone(m)
	for _, x := range batch {
		sums[textOf(x)] += x.Weight
	}
	return sums
}

func (m model) check() api.Errno {
	counts := map[string]int{}
	for text, sum := range m {
		if sum < -api.MaxWeight || sum > api.MaxWeight {
			return api.ErrWeight
		}
		if sum != 0 {
			counts[text[:strings.IndexByte(text, '[')]]++
		}
	}
	for _, count := range counts {
		if count > api.MaxRows {
			return api.ErrRows
		}
	}
	return api.OK
}

// rows tells a relation's by asking for all the rows that the test uses, in order.
func (m model) rows(relation string, arity int) string {
	rows := []api.Row{}
	for n := range []int{1, 5, 25, 125}[arity] {
		row := []int64{int64(n/25 - 2), int64(n/5%5 - 2), int64(n%5 - 2)}[3-arity:]
		if sum := m[textOf(entry(relation, 0, row...))]; sum != 0 {
			rows = append(rows, api.Row{Values: row, Weight: int64(sum)})
		}
	}
	return fmt.Sprint(rows)
}

// batchOf draws entries; every other one takes away what the model has of its row.
func batchOf(m model, draw func(int) int) []api.Entry {
	var batch []api.Entry
	for range draw(8) {
		arity := 1 + draw(3)
		x := entry([]string{"", "one", "two", "three"}[arity], draw(1601)-800)
		for range arity {
			x.Row = append(x.Row, int64(draw(5)-2))
		}
		if w := m[textOf(x)]; w != 0 && draw(2) == 0 {
			x.Weight = -w
		}
		batch = append(batch, x)
	}
	return batch
}

func TestApplyIsAsTheModel(t *testing.T) {
	draw := drawFrom(7)
	seen := map[api.Errno]int{}
	for range 40 {
		e, m := engineOfThree(t), model{}
		for range 30 {
			batch := batchOf(m, draw)
			next := m.with(batch)
			want := next.check()
			seen[want]++
			wantApply(t, e, batch, want, 0)
			if want == api.OK {
				m = next
			}
			wantRows(t, e, "one", m.rows("one", 1))
			wantRows(t, e, "two", m.rows("two", 2))
			wantRows(t, e, "three", m.rows("three", 3))
		}
		if t.Failed() {
			return
		}
	}
	if seen[api.OK] < 100 || seen[api.ErrWeight] < 10 || seen[api.ErrRows] < 100 {
		t.Errorf("the batches are too much alike: %v", seen)
	}
}
