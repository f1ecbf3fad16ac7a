package sums

import (
	"fmt"
	"slices"
	"testing"
)

// pair goes by its second number first, so that the order is seen to be its own.
type pair [2]int64

func (p pair) Compare(other pair) int {
	return slices.Compare([]int64{p[1], p[0]}, []int64{other[1], other[0]})
}

func TestAddKeepsNoNought(t *testing.T) {
	s := Sums[pair]{}
	s.Add(pair{1}, 0)
	s.Add(pair{2}, 3)
	s.Add(pair{2}, -3)
	s.Add(pair{3}, -3)
	s.Add(pair{3}, 1)
	if len(s) != 1 || s[pair{3}] != -2 {
		t.Errorf("sums = %v", s)
	}
}

// Often, since the order in which a map is gone through must not be seen.
func TestAllIsInTheRowsOwnOrder(t *testing.T) {
	for range 50 {
		s := Sums[pair]{}
		for i := range int64(9) {
			s.Add(pair{i % 3, i / 3}, 10+i)
		}
		got := ""
		for row, weight := range s.All() {
			got += fmt.Sprint(row[1], row[0], " ", weight, ";")
		}
		if want := "0 0 10;0 1 11;0 2 12;1 0 13;1 1 14;1 2 15;2 0 16;2 1 17;2 2 18;"; got != want {
			t.Fatalf("All = %s, want %s", got, want)
		}
	}
}

func TestAllStopsWhenAskedNoMore(t *testing.T) {
	s := Sums[pair]{{1}: 1, {2}: 1, {3}: 1}
	calls := 0
	s.All()(func(pair, int64) bool {
		calls++
		return calls < 2
	})
	if calls != 2 {
		t.Errorf("yield was called %d times", calls)
	}
}
