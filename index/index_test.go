package index

import (
	"fmt"
	"maps"
	"math"
	"slices"
	"testing"

	"views/api"
	"views/relation"
)

type weights = relation.Weights

var straight = Columns{0, 1, 2}

func made(columns Columns, rows weights) *Index { return New(columns, maps.All(rows)) }

// numbers goes through the next column as a join does.
func numbers(r Rows) []int64 {
	var list []int64
	for from := int64(math.MinInt64); ; from++ {
		number, found := r.LeastFrom(from)
		if !found {
			return list
		}
		list = append(list, number)
		if number == math.MaxInt64 {
			return list
		}
		from = number
	}
}

func wantNumbers(t *testing.T, r Rows, want ...int64) {
	t.Helper()
	if got := numbers(r); !slices.Equal(got, want) {
		t.Errorf("numbers = %v, want %v", got, want)
	}
	if r.Empty() != (len(want) == 0) {
		t.Errorf("Empty = %v with %v", r.Empty(), want)
	}
}

func wantWeight(t *testing.T, r Rows, want int64) {
	t.Helper()
	if got := r.Weight(); got != want {
		t.Errorf("Weight = %d, want %d", got, want)
	}
}

func TestKeysAreComparedByValue(t *testing.T) {
	keys := map[Key]int{{"r", straight}: 1, {"r", Columns{1, 0, 2}}: 2, {"s", straight}: 3}
	if keys[Key{Relation: string([]byte("r")), Columns: Columns{0, 1, 2}}] != 1 || len(keys) != 3 {
		t.Errorf("keys = %v", keys)
	}
}

func TestRunsAreSortedInTheOrderOfTheColumns(t *testing.T) {
	rows := weights{{1, 9, 5}: 1, {2, 8, 5}: 2, {3, 8, 4}: 3, {1, 8, 6}: 4}
	for _, c := range []struct {
		columns Columns
		want    string
	}{
		{Columns{0, 1, 2}, "[{[1 8 6] 4} {[1 9 5] 1} {[2 8 5] 2} {[3 8 4] 3}]"},
		{Columns{1, 0, 2}, "[{[8 1 6] 4} {[8 2 5] 2} {[8 3 4] 3} {[9 1 5] 1}]"},
		{Columns{2, 0, 1}, "[{[4 3 8] 3} {[5 1 9] 1} {[5 2 8] 2} {[6 1 8] 4}]"},
		{Columns{1, 2, 0}, "[{[8 4 3] 3} {[8 5 2] 2} {[8 6 1] 4} {[9 5 1] 1}]"},
	} {
		for range 20 {
			if got := fmt.Sprint(runOf(c.columns, maps.All(rows))); got != c.want {
				t.Fatalf("runOf(%v) = %s, want %s", c.columns, got, c.want)
			}
		}
	}
}

func TestNarrow(t *testing.T) {
	x := made(Columns{1, 0, 2}, weights{{1, 9, 5}: 1, {2, 8, 5}: 2, {3, 8, 4}: 4, {3, 8, 7}: 8, {1, 8, 6}: 16})
	all := x.Old()
	wantNumbers(t, all, 8, 9)
	wantWeight(t, all, 31)
	wantNumbers(t, all.Narrow(8), 1, 2, 3)
	wantWeight(t, all.Narrow(8), 30)
	wantNumbers(t, all.Narrow(8).Narrow(3), 4, 7)
	wantWeight(t, all.Narrow(8).Narrow(3).Narrow(7), 8)
	wantNumbers(t, all.Narrow(9), 1)
	for _, none := range []int64{math.MinInt64, 7, 10, math.MaxInt64} {
		wantNumbers(t, all.Narrow(none))
		wantWeight(t, all.Narrow(none), 0)
		wantNumbers(t, all.Narrow(none).Narrow(none).Narrow(none))
	}
	wantNumbers(t, all, 8, 9)
}

func TestNumbersAtTheEnds(t *testing.T) {
	const least, most = math.MinInt64, math.MaxInt64
	x := made(straight, weights{{least, most}: 1, {most, least}: 2, {most, most}: 4, {0, 0}: 8})
	wantNumbers(t, x.Old(), least, 0, most)
	wantNumbers(t, x.Old().Narrow(most), least, most)
	wantNumbers(t, x.Old().Narrow(least), most)
	wantWeight(t, x.Old().Narrow(most).Narrow(most), 4)
	wantWeight(t, x.Old().Narrow(most).Narrow(least), 2)
}

func TestABatchStandsApartUntilItSettles(t *testing.T) {
	x := made(Columns{1, 0, 2}, weights{{1, 5}: 1, {2, 5}: 2, {3, 6}: 3})
	wantNumbers(t, x.Batch())
	wantNumbers(t, x.New(), 5, 6)
	x.Bring(weights{{9, 7}: 4, {2, 5}: -2, {4, 5}: 5})
	wantNumbers(t, x.Old(), 5, 6)
	wantNumbers(t, x.Old().Narrow(5), 1, 2)
	wantWeight(t, x.Old(), 6)
	wantNumbers(t, x.Batch(), 5, 7)
	wantNumbers(t, x.Batch().Narrow(5), 2, 4)
	wantWeight(t, x.Batch(), 7)
	wantNumbers(t, x.New(), 5, 6, 7)
	wantWeight(t, x.New(), 13)
	wantWeight(t, x.New().Narrow(5).Narrow(2), 0)
	x.Settle()
	wantNumbers(t, x.Batch())
	for _, rows := range []Rows{x.Old(), x.New()} {
		wantNumbers(t, rows, 5, 6, 7)
		wantNumbers(t, rows.Narrow(5), 1, 4)
		wantWeight(t, rows, 13)
	}
	x.Bring(nil)
	wantNumbers(t, x.Batch())
	wantNumbers(t, x.New(), 5, 6, 7)
	x.Settle()
	wantNumbers(t, x.Old(), 5, 6, 7)
}

// Neither lies in the spare room of the other, nor of the index.
func TestOldAndNewShareNoRuns(t *testing.T) {
	x := made(straight, weights{{1}: 1, {2}: 1, {3}: 1, {4}: 1, {5}: 1, {6}: 1, {7}: 1})
	x.Bring(weights{{8}: 1})
	first := x.New()
	x.Bring(weights{{9}: 1})
	second := x.New()
	wantNumbers(t, first, 1, 2, 3, 4, 5, 6, 7, 8)
	wantNumbers(t, second, 1, 2, 3, 4, 5, 6, 7, 9)
	wantNumbers(t, x.Old(), 1, 2, 3, 4, 5, 6, 7)
}

func TestMerge(t *testing.T) {
	a := run{{relation.Row{1}, 1}, {relation.Row{3}, 2}, {relation.Row{5}, -3}}
	b := run{{relation.Row{0}, 4}, {relation.Row{3}, -2}, {relation.Row{5}, 4}, {relation.Row{6}, 5}}
	for _, c := range []struct {
		a, b run
		want string
	}{
		{a, b, "[{[0 0 0] 4} {[1 0 0] 1} {[5 0 0] 1} {[6 0 0] 5}]"},
		{b, a, "[{[0 0 0] 4} {[1 0 0] 1} {[5 0 0] 1} {[6 0 0] 5}]"},
		{a, nil, fmt.Sprint(a)},
		{nil, b, fmt.Sprint(b)},
		{nil, nil, "[]"},
	} {
		if got := fmt.Sprint(merge(c.a, c.b)); got != c.want {
			t.Errorf("merge = %s, want %s", got, c.want)
		}
	}
}

// kept has the weights of all rows in the runs, in the relation's own order of columns.
func (x *Index) kept() weights {
	sums := weights{}
	for _, each := range x.runs {
		for _, e := range each {
			var row relation.Row
			for i, column := range x.columns {
				row[column] = e.row[i]
			}
			sums.Add(row, e.weight)
		}
	}
	return sums
}

// However many batches come, an index does not grow past its relation: there
// are several runs, but few, and none is empty or has a row without a weight.
func TestRunsStayFew(t *testing.T) {
	state := uint64(5)
	draw := func(n int) int {
		state = state*6364136223846793005 + 1442695040888963407
		return int(state>>33) % n
	}
	x, rows, most := made(Columns{1, 2, 0}, nil), weights{}, 0
	for range 3000 {
		change := weights{}
		for range draw(3) + draw(2)*draw(8) {
			row := relation.Row{int64(draw(3)), int64(draw(3)), int64(draw(4))}
			if len(rows) < api.MaxRows-8 && draw(3) > 0 {
				change.Add(row, int64(draw(5)-2))
			} else if change[row] == 0 {
				change.Add(row, -rows[row])
			}
		}
		x.Bring(change)
		x.Settle()
		for row, weight := range change {
			rows.Add(row, weight)
		}
		if got := x.kept(); !maps.Equal(got, rows) {
			t.Fatalf("the index has %v, the relation %v", got, rows)
		}
		most = max(most, len(x.runs))
		for _, each := range x.runs {
			if len(each) == 0 || slices.ContainsFunc(each, func(e entry) bool { return e.weight == 0 }) {
				t.Fatalf("a run is %v", each)
			}
		}
	}
	if most < 2 || most > 4 {
		t.Errorf("there were up to %d runs", most)
	}
}

func (x *Index) take(change weights) {
	x.Bring(change)
	x.Settle()
}

// Compact makes one run of many: sorted, each row once, none without a weight.
func TestCompactMakesOneRun(t *testing.T) {
	x := made(Columns{1, 0, 2}, nil)
	x.Compact()
	if len(x.runs) != 0 {
		t.Errorf("without a row there are %d runs", len(x.runs))
	}
	x.take(weights{{1, 9}: 1, {2, 8}: 2, {3, 8}: 3, {4, 8}: 4, {5, 7}: 5, {6, 7}: 6, {7, 7}: 7})
	x.take(weights{{3, 8}: -3, {4, 8}: 1, {8, 0}: 8})
	x.take(weights{{5, 7}: -6})
	if len(x.runs) != 3 {
		t.Fatalf("there are %d runs", len(x.runs))
	}
	const want = "[[{[0 8 0] 8} {[7 5 0] -1} {[7 6 0] 6} {[7 7 0] 7} {[8 2 0] 2} {[8 4 0] 5} {[9 1 0] 1}]]"
	for range 2 {
		x.Compact()
		if got := fmt.Sprint(x.runs); got != want {
			t.Errorf("the runs are %s, want %s", got, want)
		}
		wantNumbers(t, x.Batch())
	}
	x.take(weights{{8, 0}: -8})
	wantNumbers(t, x.Old().Narrow(7), 5, 6, 7)
	wantWeight(t, x.Old(), 20)
}

// What was handed out ahead of Compact is still what it was.
func TestCompactWritesIntoNoRows(t *testing.T) {
	x := made(straight, weights{{1}: 1, {3}: 1, {5}: 1, {7}: 1, {9}: 1})
	x.take(weights{{2}: 1, {5}: -1})
	rows := x.Old()
	x.Compact()
	x.take(weights{{4}: 1})
	wantNumbers(t, rows, 1, 2, 3, 5, 7, 9)
	wantWeight(t, rows.Narrow(5), 0)
	wantNumbers(t, x.Old(), 1, 2, 3, 4, 7, 9)
}
