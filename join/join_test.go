package join

import (
	"fmt"
	"maps"
	"math"
	"slices"
	"testing"

	"views/index"
	"views/query"
	"views/relation"
)

type weights = relation.Weights

func planOf(t *testing.T, text, order string) *Plan {
	t.Helper()
	q, err := query.Read(text)
	if err != nil {
		t.Fatalf("Read(%q): %v", text, err)
	}
	return NewPlan(q, order)
}

func sourcesOf(p *Plan, relations map[string]weights) Sources {
	var sources Sources
	for i, key := range p.Keys() {
		sources[i] = index.New(key.Columns, maps.All(relations[key.Relation])).Old()
	}
	return sources
}

func told(p *Plan, sources Sources) string {
	text := ""
	for row, weight := range p.All(sources) {
		text += fmt.Sprintf("%v%d;", row, weight)
	}
	return text
}

func TestKeys(t *testing.T) {
	for _, c := range []struct {
		text, order string
		want        string
	}{
		{"():-r(X)", "X", "[{r [0 1 2]}]"},
		{"():-r(X,Y)", "XY", "[{r [0 1 2]}]"},
		{"():-r(X,Y)", "YX", "[{r [1 0 2]}]"},
		{"():-r(X,Y,Z)", "ZXY", "[{r [2 0 1]}]"},
		{"():-r(X,Y,X)", "XY", "[{r [0 2 1]}]"},
		{"():-r(X,Y,X)", "YX", "[{r [1 0 2]}]"},
		{"():-r(X,7,Y)", "YX", "[{r [1 2 0]}]"},
		{"():-r(7,X,8)", "X", "[{r [0 2 1]}]"},
		{"():-r(7,8)", "", "[{r [0 1 2]}]"},
		{"():-r(X,Y),s(Y,X),r(Y,X)", "XY", "[{r [0 1 2]} {s [1 0 2]} {r [1 0 2]}]"},
	} {
		if got := fmt.Sprint(planOf(t, c.text, c.order).Keys()); got != c.want {
			t.Errorf("%s in the order %s: Keys = %s, want %s", c.text, c.order, got, c.want)
		}
	}
}

func TestChooseOrder(t *testing.T) {
	for _, c := range []struct{ text, want string }{
		{"():-r(7)", ""},
		{"():-r(X)", "X"},
		{"(Z):-r(Z,B),s(A)", "ZBA"},
		{"():-r(X,Y),r(Y,Z)", "YXZ"},
		{"():-r(X,X,X),r(Y,Z),r(Z,Y)", "YZX"},
		{"():-r(A,B),s(C,D),t(D),u(D,C)", "DCAB"},
	} {
		q, err := query.Read(c.text)
		if err != nil {
			t.Fatalf("Read(%q): %v", c.text, err)
		}
		if got := chooseOrder(q); got != c.want {
			t.Errorf("chooseOrder(%s) = %s, want %s", c.text, got, c.want)
		}
	}
}

// The numbers rise, in the order of the variables that the plan was given.
func TestAllGoesThroughTheVariablesInOrder(t *testing.T) {
	relations := map[string]weights{
		"r": {{1, 2}: 1, {1, 3}: 2, {2, 3}: 3, {5, 9}: 4},
		"s": {{3, 1}: 5, {3, 0}: 7, {2, 2}: -1, {8, 8}: 1},
	}
	for _, c := range []struct{ order, want string }{
		{"XYZ", "[1 2 2 0]-1;[1 3 0 0]14;[1 3 1 0]10;[2 3 0 0]21;[2 3 1 0]15;"},
		{"YXZ", "[1 2 2 0]-1;[1 3 0 0]14;[1 3 1 0]10;[2 3 0 0]21;[2 3 1 0]15;"},
		{"ZYX", "[1 3 0 0]14;[2 3 0 0]21;[1 3 1 0]10;[2 3 1 0]15;[1 2 2 0]-1;"},
		{"YZX", "[1 2 2 0]-1;[1 3 0 0]14;[2 3 0 0]21;[1 3 1 0]10;[2 3 1 0]15;"},
	} {
		p := planOf(t, "(X,Y,Z):-r(X,Y),s(Y,Z)", c.order)
		sources := sourcesOf(p, relations)
		for range 2 { // what was told once can be told again
			if got := told(p, sources); got != c.want {
				t.Errorf("in the order %s: %s, want %s", c.order, got, c.want)
			}
		}
	}
}

func TestAllTellsEachAssignment(t *testing.T) {
	relations := map[string]weights{
		"r": {{1, 2}: 1, {1, 3}: 2, {3, 3}: 3, {3, 1}: 4},
		"t": {{3}: 5, {7}: -1},
	}
	for _, c := range []struct{ text, want string }{
		{"(X):-r(X,Y)", "[1 0 0 0]1;[1 0 0 0]2;[3 0 0 0]4;[3 0 0 0]3;"},
		{"(Y,Y,X,Y):-r(X,Y),t(Y)", "[3 3 1 3]10;[3 3 3 3]15;"},
		{"(X):-r(X,X)", "[3 0 0 0]3;"},
		{"(X):-r(1,X),r(X,-1)", ""},
		{"(X):-r(1,X),r(X,001)", "[3 0 0 0]8;"},
		{"():-t(3),t(7)", "[0 0 0 0]-5;"},
		{"():-t(3),t(8)", ""},
		{"():-r(3,3)", "[0 0 0 0]3;"},
		{"():-q(X),r(Y,Z)", ""},
	} {
		p := planOf(t, c.text, "")
		if got := told(p, sourcesOf(p, relations)); got != c.want {
			t.Errorf("%s: %s, want %s", c.text, got, c.want)
		}
	}
}

func TestAllPassesOverWhatComesToNothing(t *testing.T) {
	p := planOf(t, "(X):-t(X)", "")
	x := index.New(p.Keys()[0].Columns, maps.All(weights{{1}: 5, {2}: 6}))
	x.Bring(weights{{1}: -5, {2}: 1})
	if got := told(p, Sources{x.New()}); got != "[2 0 0 0]7;" {
		t.Errorf("All = %s", got)
	}
}

// Asked for no more, neither the join nor the numbers of a step go on: a yield
// that is called again would be counted.
func TestAllStopsWhenAskedNoMore(t *testing.T) {
	rows := weights{}
	for i := range int64(4) {
		rows[relation.Row{i}] = 1
	}
	p := planOf(t, "(X,Y,Z):-t(X),t(Y),t(Z)", "")
	sources := sourcesOf(p, map[string]weights{"t": rows})
	for most := 1; most <= 64; most++ {
		calls := 0
		p.All(sources)(func(Row, int64) bool {
			calls++
			return calls < most
		})
		if calls != most {
			t.Fatalf("asked for %d, told %d", most, calls)
		}
	}
	calls := 0
	p.steps[0].numbers(sources)(func(int64) bool {
		calls++
		return calls < 2
	})
	if calls != 2 {
		t.Errorf("asked for 2 numbers, told %d", calls)
	}
}

func TestNumbersAreThoseOfAllAtoms(t *testing.T) {
	const least, most = math.MinInt64, math.MaxInt64
	p := planOf(t, "():-r(X),s(X),t(X)", "")
	for _, c := range []struct{ r, s, t, want []int64 }{
		{[]int64{1, 2, 3}, []int64{1, 2, 3}, []int64{1, 2, 3}, []int64{1, 2, 3}},
		{[]int64{1, 3, 5, 9}, []int64{2, 3, 9}, []int64{3, 4, 5, 6, 9}, []int64{3, 9}},
		{[]int64{1, 2}, []int64{1, 2}, []int64{2}, []int64{2}},
		{[]int64{1, 2}, []int64{2}, []int64{1, 2}, []int64{2}},
		{[]int64{2}, []int64{1, 2}, []int64{1, 2}, []int64{2}},
		{[]int64{1}, []int64{1}, []int64{2}, nil},
		{[]int64{1, 4}, []int64{2, 5}, []int64{3, 6}, nil},
		{[]int64{1, 4, 7}, []int64{2, 5, 7}, []int64{3, 6, 7}, []int64{7}},
		{[]int64{least, most}, []int64{least, 0, most}, []int64{least, 1, most}, []int64{least, most}},
		{[]int64{least}, []int64{most}, []int64{0}, nil},
		{[]int64{most}, []int64{most}, []int64{least, most}, []int64{most}},
		{[]int64{1}, nil, []int64{1}, nil},
	} {
		relations := map[string]weights{"r": {}, "s": {}, "t": {}}
		for name, numbers := range map[string][]int64{"r": c.r, "s": c.s, "t": c.t} {
			for _, number := range numbers {
				relations[name][relation.Row{number}] = 1
			}
		}
		got := slices.Collect(p.steps[0].numbers(sourcesOf(p, relations)))
		if !slices.Equal(got, c.want) {
			t.Errorf("numbers of %v, %v, %v = %v, want %v", c.r, c.s, c.t, got, c.want)
		}
	}
}

func TestRowsAreComparedNumberByNumber(t *testing.T) {
	rows := []Row{{math.MinInt64, 9, 9, 9}, {-1}, {0, 0, 0, -1}, {}, {0, 0, 0, 1}, {0, 0, 1, -1}, {0, 2}, {math.MaxInt64}}
	for i, a := range rows {
		for k, b := range rows {
			if got := a.Compare(b); (got < 0) != (i < k) || (got > 0) != (i > k) {
				t.Errorf("%v, %v: %d", a, b, got)
			}
		}
	}
}

func TestFirst(t *testing.T) {
	row := Row{5, 0, -7, 8}
	for columns, want := range []Row{{}, {5}, {5, 0}, {5, 0, -7}, {5, 0, -7, 8}} {
		if got := row.First(columns); got != want {
			t.Errorf("First(%d) = %v, want %v", columns, got, want)
		}
	}
	if row != (Row{5, 0, -7, 8}) {
		t.Errorf("the row is %v now", row)
	}
}
