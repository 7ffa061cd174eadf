package stack_test

import (
	"math"
	"slices"
	"testing"

	"swath/api"
	"swath/stack"
)

// P7.3
func TestLightest(t *testing.T) {
	for _, x := range []struct {
		what   string
		s      api.StackNet
		want   []int
		length int
	}{
		{"the example", example(), []int{0, 2, 3}, 298},
		{"no scenes", stackOf(nil), nil, 0},
		{"no pairs", stackOf(days(5, 1, 9)), nil, 0},
		{"equal lengths", stackOf(sameDay(3), pair(1, 2), pair(0, 2), pair(0, 1)), []int{0, 1}, 0},
		{"a short pair at the end", stackOf(days(0, 9, 10), pair(0, 1), pair(0, 2), pair(1, 2)), []int{0, 2}, 10},
		{"days that descend", stackOf(days(10, 1, 0), pair(0, 1), pair(0, 2), pair(1, 2)), []int{0, 2}, 10},
		{"two parts", stackOf(days(0, 7, 3, 5), pair(1, 3), pair(0, 2)), []int{0, 1}, 5},
		{"the greatest length", stackOf([]api.StackScene{scene("a", 0, 100000), scene("b", 100000, -100000)}, pair(0, 1)), []int{0}, 300000},
	} {
		before := copyOf(x.s)
		got, length, err := stack.Lightest(x.s)
		expect(t, x.what, got, err, x.want, api.OK)
		expect(t, "the length: "+x.what, length, err, x.length, api.OK)
		expect(t, "the stack behind Lightest", x.s, api.OK, before, api.OK)
	}
}

// P7.3: the forest of all forests; many pairs have the same length.
func TestAnyLightest(t *testing.T) {
	source := source(3)
	for i := range 60 {
		scenes := source.from(2, 6)
		s := source.stack(scenes, source.from(1, 9), [3]int{0, 2, 100}[i%3])
		var best []int
		found := false
		for _, l := range lists(len(s.Pairs)) {
			if !isForest(s, l) {
				continue
			}
			if !found || length(s, l) < length(s, best) || length(s, l) == length(s, best) && slices.Compare(l, best) < 0 {
				best, found = l, true
			}
		}
		got, sum, err := stack.Lightest(s)
		expect(t, "Lightest", got, err, best, api.OK)
		expect(t, "the length of Lightest", sum, err, length(s, best), api.OK)
	}
}

// P7.3
func TestCheckForest(t *testing.T) {
	for _, x := range []struct {
		what   string
		s      api.StackNet
		forest []int
		want   int
	}{
		{"the lightest one", example(), []int{0, 2, 3}, 298},
		{"another one", example(), []int{0, 1, 3}, 386},
		{"the last one", example(), []int{1, 2, 3}, 348},
		{"nothing", stackOf(nil), nil, 0},
		{"no pairs", stackOf(sameDay(3)), nil, 0},
		{"many pairs", fullStack(), numbers(fullStack())[:59], 0},
	} {
		before, forest := copyOf(x.s), slices.Clone(x.forest)
		got, err := stack.CheckForest(x.s, x.forest)
		expect(t, x.what, got, err, x.want, api.OK)
		expect(t, "the stack behind CheckForest", x.s, api.OK, before, api.OK)
		expect(t, "the forest behind CheckForest", x.forest, api.OK, forest, api.OK)
	}
	for _, x := range forestFaults() {
		got, err := stack.CheckForest(example(), x.forest)
		expect(t, x.what, got, err, 0, x.err)
	}
	got, err := stack.CheckForest(stackOf(nil), []int{0})
	expect(t, "a pair of no stack", got, err, 0, api.ErrMissing)
	got, err = stack.CheckForest(stackOf(sameDay(4), pair(0, 1), pair(2, 3)), []int{0})
	expect(t, "a part without a tree", got, err, 0, api.ErrOpen)
}

// P7.3: all lists of pairs.
func TestAnyForests(t *testing.T) {
	source := source(4)
	for range 20 {
		s := source.stack(source.from(2, 6), source.from(1, 8), 50)
		for _, l := range lists(len(s.Pairs)) {
			got, err := stack.CheckForest(s, l)
			switch {
			case isForest(s, l):
				expect(t, "a forest", got, err, length(s, l), api.OK)
			case len(l)+count(parts(s, l)) > len(s.Scenes):
				expect(t, "a cycle", got, err, 0, api.ErrCycle)
			default:
				expect(t, "too few pairs", got, err, 0, api.ErrOpen)
			}
		}
	}
}

// P7.4
func TestCycleOf(t *testing.T) {
	ring := stackOf(sameDay(6), pair(2, 3), pair(0, 1), pair(1, 2), pair(0, 3), pair(4, 5))
	square := stackOf(sameDay(4), pair(0, 1), pair(0, 2), pair(1, 3), pair(2, 3))
	for _, x := range []struct {
		what   string
		s      api.StackNet
		forest []int
		pair   int
		want   []api.StackStep
	}{
		{"the example", example(), []int{0, 2, 3}, 1, walk(step(1, 1), step(2, -1), step(0, 1))},
		{"another forest", example(), []int{0, 1, 3}, 2, walk(step(2, 1), step(1, -1), step(0, -1))},
		{"the last forest", example(), []int{1, 2, 3}, 0, walk(step(0, 1), step(1, 1), step(2, -1))},
		{"a ring", ring, []int{0, 1, 2, 4}, 3, walk(step(3, 1), step(0, -1), step(2, -1), step(1, -1))},
		{"a way that turns", square, []int{0, 1, 2}, 3, walk(step(3, 1), step(2, -1), step(0, -1), step(1, 1))},
		{"a way without the first scene", square, []int{1, 2, 3}, 0, walk(step(0, 1), step(2, 1), step(3, -1), step(1, -1))},
	} {
		before, forest := copyOf(x.s), slices.Clone(x.forest)
		got, err := stack.CycleOf(x.s, x.forest, x.pair)
		expect(t, x.what, got, err, x.want, api.OK)
		expect(t, "the stack behind CycleOf", x.s, api.OK, before, api.OK)
		expect(t, "the forest behind CycleOf", x.forest, api.OK, forest, api.OK)
	}
}

// P7.4
func TestErrorsOfCycleOf(t *testing.T) {
	for _, x := range forestFaults() {
		cycle, err := stack.CycleOf(example(), x.forest, -1)
		expect(t, "CycleOf: "+x.what, cycle, err, nil, x.err)
		cycles, err := stack.Cycles(example(), x.forest)
		expect(t, "Cycles: "+x.what, cycles, err, nil, x.err)
	}
	for _, x := range []struct {
		pair int
		err  api.Errno
	}{{-1, api.ErrMissing}, {4, api.ErrMissing}, {math.MaxInt, api.ErrMissing}, {math.MinInt, api.ErrMissing}, {0, api.ErrDouble}, {2, api.ErrDouble}, {3, api.ErrDouble}} {
		cycle, err := stack.CycleOf(example(), []int{0, 2, 3}, x.pair)
		expect(t, "CycleOf", cycle, err, nil, x.err)
	}
	cycle, err := stack.CycleOf(stackOf(nil), nil, 0)
	expect(t, "CycleOf nothing", cycle, err, nil, api.ErrMissing)
}

// P7.4
func TestCycles(t *testing.T) {
	four := stackOf(sameDay(4), allPairs(4)...)
	for _, x := range []struct {
		what   string
		s      api.StackNet
		forest []int
		want   [][]api.StackStep
	}{
		{"the example", example(), []int{0, 2, 3}, [][]api.StackStep{walk(step(1, 1), step(2, -1), step(0, 1))}},
		{"a chain", stackOf(sameDay(3), pair(0, 1), pair(1, 2)), []int{0, 1}, nil},
		{"nothing", stackOf(nil), nil, nil},
		{"a star", four, []int{0, 1, 2}, [][]api.StackStep{
			walk(step(3, 1), step(1, -1), step(0, 1)),
			walk(step(4, 1), step(2, -1), step(0, 1)),
			walk(step(5, 1), step(2, -1), step(1, 1))}},
	} {
		before, forest := copyOf(x.s), slices.Clone(x.forest)
		got, err := stack.Cycles(x.s, x.forest)
		expect(t, x.what, got, err, x.want, api.OK)
		expect(t, "the stack behind Cycles", x.s, api.OK, before, api.OK)
		expect(t, "the forest behind Cycles", x.forest, api.OK, forest, api.OK)
	}
}

// P7.4: a cycle is the pair and then the only way along the forest that has no pair twice.
func TestAnyCycles(t *testing.T) {
	source := source(5)
	for range 40 {
		scenes := source.from(2, 60)
		s := source.stack(scenes, source.from(1, min(200, 3*scenes)), 100)
		forest := source.forest(s)
		var want [][]api.StackStep
		for i, p := range s.Pairs {
			cycle, err := stack.CycleOf(s, forest, i)
			if slices.Contains(forest, i) {
				expect(t, "CycleOf a pair of the forest", cycle, err, nil, api.ErrDouble)
				continue
			}
			way, _ := wayBetween(s, forest, p.Second, p.First)
			expect(t, "CycleOf", cycle, err, append(walk(step(i, 1)), way...), api.OK)
			want = append(want, cycle)
		}
		cycles, err := stack.Cycles(s, forest)
		expect(t, "Cycles", cycles, err, want, api.OK)
	}
}
