package relation

import (
	"math"
	"slices"
	"testing"

	"views/api"
)

func TestRowOfCopies(t *testing.T) {
	numbers := []int64{4, 5}
	row := RowOf(numbers)
	numbers[0] = 9
	if row != (Row{4, 5, 0}) {
		t.Errorf("RowOf = %v", row)
	}
}

func TestWeightsFit(t *testing.T) {
	r := New(1)
	r.Add(Weights{{1}: api.MaxWeight, {2}: -api.MaxWeight})
	for _, c := range []struct {
		change Weights
		want   bool
	}{
		{nil, true},
		{Weights{{1}: 1}, false},
		{Weights{{2}: -1}, false},
		{Weights{{1}: -2 * api.MaxWeight}, true},
		{Weights{{1}: -2*api.MaxWeight - 1}, false},
		{Weights{{2}: 2 * api.MaxWeight}, true},
		{Weights{{2}: 2*api.MaxWeight + 1}, false},
		{Weights{{3}: api.MaxWeight, {4}: -api.MaxWeight}, true},
		{Weights{{3}: api.MaxWeight, {4}: -api.MaxWeight - 1}, false},
	} {
		if got := r.WeightsFit(c.change); got != c.want {
			t.Errorf("WeightsFit(%v) = %v", c.change, got)
		}
	}
}

func TestRowsFit(t *testing.T) {
	r := New(1)
	for i := range api.MaxRows {
		r.Add(Weights{{int64(i)}: 2})
	}
	for _, c := range []struct {
		change Weights
		want   bool
	}{
		{nil, true},
		{Weights{{3}: 1, {4}: -1}, true},
		{Weights{{100}: 1}, false},
		{Weights{{100}: 1, {3}: -1}, false},
		{Weights{{100}: 1, {3}: -2}, true},
		{Weights{{100}: 1, {101}: 1, {3}: -2}, false},
		{Weights{{100}: 1, {101}: 1, {3}: -2, {4}: -2}, true},
	} {
		if got := r.RowsFit(c.change); got != c.want {
			t.Errorf("RowsFit(%v) = %v", c.change, got)
		}
	}
	if r.Len() != api.MaxRows {
		t.Errorf("asking changed the relation: %d rows", r.Len())
	}
}

func TestAllIsInOrder(t *testing.T) {
	r := New(3)
	want := []Row{
		{math.MinInt64, math.MaxInt64, 0},
		{-1, 5, 5},
		{0, math.MinInt64, 9},
		{0, 0, -1},
		{0, 0, 0},
		{0, 0, 1},
		{0, 3, -9},
		{math.MaxInt64, math.MinInt64, 0},
	}
	for i := range want {
		row := want[(i*5+3)%len(want)]
		r.Add(Weights{row: row[2] + 50})
	}
	var got []Row
	for row, weight := range r.All() {
		if weight != row[2]+50 {
			t.Errorf("weight of %v = %d", row, weight)
		}
		got = append(got, row)
	}
	if !slices.Equal(got, want) {
		t.Errorf("All = %v, want %v", got, want)
	}
}

func TestAllStopsWhenAskedNoMore(t *testing.T) {
	r := New(1)
	r.Add(Weights{{1}: 1, {2}: 1, {3}: 1})
	calls := 0
	r.All()(func(Row, int64) bool {
		calls++
		return calls < 2
	})
	if calls != 2 {
		t.Errorf("yield was called %d times", calls)
	}
}
