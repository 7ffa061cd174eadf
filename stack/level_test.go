package stack_test

import (
	"math"
	"slices"
	"testing"

	"swath/api"
	"swath/stack"
)

// P7.5
func TestClosure(t *testing.T) {
	there, back := step(0, 1), step(0, -1)
	for _, x := range []struct {
		what   string
		phases []int
		l      []api.StackStep
		want   int
	}{
		{"the example", []int{1000, 500, 5596, -300}, walk(step(0, 1), step(1, 1), step(2, -1)), -4096},
		{"the other way round", []int{1000, 500, 5596, -300}, walk(step(2, 1), step(1, -1), step(0, -1)), 4096},
		{"there and back", []int{1000, 0, 0, 0}, walk(there, back), 0},
		{"not wrapped", []int{100000000, 100000000, -100000000, 0}, walk(step(0, 1), step(1, 1), step(2, -1)), 300000000},
		{"400 steps", []int{7, 0, 0, 0}, slices.Repeat(walk(there, back), 200), 0},
		{"no turns", []int{1, 1, 1, 0}, walk(step(0, 1), step(1, 1), step(2, -1)), 1},
	} {
		z := task(example(), x.phases, equal(4, 1))
		before, steps := copyOfTask(z), slices.Clone(x.l)
		got, err := stack.Closure(z, x.l)
		expect(t, x.what, got, err, x.want, api.OK)
		expect(t, "the task behind Closure", z, api.OK, before, api.OK)
		expect(t, "the walk behind Closure", x.l, api.OK, steps, api.OK)
	}
	for _, x := range walkFaults() {
		got, err := stack.Closure(exampleTask(1, 1, 1, 1), x.l)
		expect(t, x.what, got, err, 0, x.err)
	}
}

// P7.5
func TestFirstOpen(t *testing.T) {
	cycle := walk(step(1, 1), step(2, -1), step(0, 1))
	for _, x := range []struct {
		what   string
		phases []int
		want   []api.StackStep
		open   int
		err    api.Errno
	}{
		{"the example", []int{1000, 501, 5596, -300}, cycle, -4095, api.OK},
		{"one turn", []int{1000, 500, 5596, -300}, nil, 0, api.ErrNone},
		{"no turn", []int{1000, 500, 1500, -300}, nil, 0, api.ErrNone},
		{"one part", []int{0, 1, 0, 0}, cycle, 1, api.OK},
		{"less than nothing", []int{0, 0, 1, 0}, cycle, -1, api.OK},
		{"half a turn", []int{2048, 0, 0, 9}, cycle, 2048, api.OK},
		{"many turns", []int{0, 100000000, 0, 0}, cycle, 100000000, api.OK},
		{"many whole turns", []int{0, 0, 4096 * 24000, 0}, nil, 0, api.ErrNone},
	} {
		z := task(example(), x.phases, equal(4, 0))
		before := copyOfTask(z)
		got, open, err := stack.FirstOpen(z)
		expect(t, x.what, got, err, x.want, x.err)
		expect(t, "the closure: "+x.what, open, err, x.open, x.err)
		expect(t, "the task behind FirstOpen", z, api.OK, before, api.OK)
	}
	_, _, err := stack.FirstOpen(task(stackOf(nil), nil, nil))
	expectError(t, "no scenes", err, api.ErrNone)
}

// P7.5: the first of the cycles of the lightest forest.
func TestAnyFirstOpen(t *testing.T) {
	source := source(7)
	found, none := 0, 0
	for range 60 {
		s := source.stack(source.from(3, 20), source.from(3, 60), 100)
		x, _ := source.task(s, 2, 9, true)
		for i := range x.Phases {
			if source.below(20) == 0 {
				x.Phases[i] += source.from(-3, 3)
			}
		}
		forest, _, err := stack.Lightest(s)
		expectError(t, "Lightest", err, api.OK)
		cycles, err := stack.Cycles(s, forest)
		expectError(t, "Cycles", err, api.OK)
		first := slices.IndexFunc(cycles, func(l []api.StackStep) bool { return closure(x.Phases, l)%4096 != 0 })
		got, open, err := stack.FirstOpen(x)
		if first < 0 {
			none++
			expect(t, "FirstOpen", got, err, nil, api.ErrNone)
			expect(t, "the closure of FirstOpen", open, err, 0, api.ErrNone)
			continue
		}
		found++
		expect(t, "FirstOpen", got, err, cycles[first], api.OK)
		expect(t, "the closure of FirstOpen", open, err, closure(x.Phases, cycles[first]), api.OK)
	}
	if found < 10 || none < 10 {
		t.Errorf("%d tasks with open cycles, %d without", found, none)
	}
}

// P7.7
func TestSolved(t *testing.T) {
	parts := stackOf(sameDay(6), pair(1, 4), pair(0, 2), pair(4, 5), pair(1, 5))
	for _, x := range []struct {
		what   string
		s      api.StackNet
		phases []int
		datum  int
		want   []int
	}{
		{"the example", example(), []int{1000, 500, 1500, -300}, 0, []int{0, 1000, 1500, 1200}},
		{"another datum", example(), []int{1000, 500, 1500, -300}, 2, []int{-1500, -500, 0, -300}},
		{"the last datum", example(), []int{1000, 500, 1500, -300}, 3, []int{-1200, -200, 300, 0}},
		{"not wrapped", example(), []int{5000, 5000, 10000, -50000}, 0, []int{0, 5000, 10000, -40000}},
		{"the first part", parts, []int{10, 20, 30, 40}, 2, []int{-20, void, 0, void, void, void}},
		{"the second part", parts, []int{10, 20, 30, 40}, 4, []int{void, -10, void, void, 0, 30}},
		{"the least scene of a part", parts, []int{10, 20, 30, 40}, 1, []int{void, 0, void, void, 10, 40}},
		{"a scene by itself", parts, []int{10, 20, 30, 40}, 3, []int{void, void, void, 0, void, void}},
		{"no pairs", stackOf(sameDay(2)), nil, 1, []int{void, 0}},
		{"one scene", stackOf(sameDay(1)), nil, 0, []int{0}},
	} {
		z := task(x.s, x.phases, equal(len(x.phases), 1))
		before := copyOfTask(z)
		got, open, err := stack.Solved(z, x.datum)
		expect(t, x.what, got, err, x.want, api.OK)
		expect(t, "the pairs: "+x.what, open, err, nil, api.OK)
		expect(t, "the task behind Solved", z, api.OK, before, api.OK)
	}
}

// P7.7
func TestErrorsOfSolved(t *testing.T) {
	parts := stackOf(sameDay(7), allPairs(4)...)
	parts.Pairs = append(parts.Pairs, pair(4, 5), pair(5, 6), pair(4, 6))
	for _, x := range []struct {
		what   string
		s      api.StackNet
		phases []int
		datum  int
		want   []int
		err    api.Errno
	}{
		{"the example", example(), []int{1000, 500, 5596, -300}, 0, []int{1}, api.ErrBreak},
		{"one part of a turn", example(), []int{1000, 501, 1500, -300}, 3, []int{1}, api.ErrBreak},
		{"a wrong pair of the forest", example(), []int{1001, 500, 1500, -300}, 0, []int{1}, api.ErrBreak},
		{"some pairs", parts, []int{0, 0, 0, 0, 1, 1, 0, 0, 0}, 0, []int{4, 5}, api.ErrBreak},
		{"pairs of the other part", parts, []int{0, 0, 0, 0, 0, 0, 5, 5, 5}, 0, []int{8}, api.ErrBreak},
		{"a pair of the forest of the other part", parts, []int{0, 3, 0, 3, 0, -3, 0, 0, 0}, 6, nil, api.OK},
		{"three pairs", parts, []int{0, 3, 0, 0, 0, 0, 1, 1, 0}, 5, []int{3, 5, 8}, api.ErrBreak},
		{"no such datum", example(), []int{1000, 500, 1500, -300}, 4, nil, api.ErrMissing},
		{"no such datum of open pairs", example(), []int{1000, 500, 5596, -300}, 4, nil, api.ErrMissing},
		{"a datum below 0", example(), []int{1000, 500, 1500, -300}, -1, nil, api.ErrMissing},
		{"the greatest datum of all", example(), []int{1000, 500, 1500, -300}, math.MaxInt, nil, api.ErrMissing},
		{"the least datum of all", example(), []int{1000, 500, 1500, -300}, math.MinInt, nil, api.ErrMissing},
		{"no scenes", stackOf(nil), nil, 0, nil, api.ErrMissing},
	} {
		got, open, err := stack.Solved(task(x.s, x.phases, equal(len(x.phases), 1)), x.datum)
		expect(t, x.what, open, err, x.want, x.err)
		if x.err != api.OK {
			expect(t, "the phases: "+x.what, got, err, nil, x.err)
		}
	}
}

// P7.7: the phases of a chain are greater than those of its pairs may be.
func TestGreatPhases(t *testing.T) {
	chain := stackOf(sameDay(60))
	for i := range 59 {
		chain.Pairs = append(chain.Pairs, pair(i, i+1))
	}
	var up, down []int
	for i := range 60 {
		up = append(up, 100000000*i)
		down = append(down, 100000000*(i-59))
	}
	x := task(chain, equal(59, 100000000), equal(59, 0))
	got, _, err := stack.Solved(x, 0)
	expect(t, "Solved", got, err, up, api.OK)
	got, _, err = stack.Solved(x, 59)
	expect(t, "Solved with the last datum", got, err, down, api.OK)
	got, err = stack.Moved(chain, up, 59)
	expect(t, "Moved", got, err, down, api.OK)
}

// P7.7
func TestMoved(t *testing.T) {
	apart := stackOf(sameDay(3))
	for _, x := range []struct {
		what   string
		s      api.StackNet
		phases []int
		datum  int
		want   []int
		err    api.Errno
	}{
		{"the example", example(), []int{0, 1000, 1500, 1200}, 2, []int{-1500, -500, 0, -300}, api.OK},
		{"the same datum", example(), []int{0, 1000, 1500, 1200}, 0, []int{0, 1000, 1500, 1200}, api.OK},
		{"phases of no datum", example(), []int{5, 1005, 1505, 1205}, 0, []int{0, 1000, 1500, 1200}, api.OK},
		{"phases that do not suit the pairs", example(), []int{1, 2, 4, 8}, 3, []int{-7, -6, -4, 0}, api.OK},
		{"void phases", apart, []int{void, 70, void}, 1, []int{void, 0, void}, api.OK},
		{"the limits", apart, []int{6000000000, -6000000000, void}, 0, []int{0, -12000000000, void}, api.OK},
		{"no phases", apart, nil, 9, nil, api.ErrShape},
		{"too few phases", apart, []int{math.MaxInt, 0}, 9, nil, api.ErrShape},
		{"too many phases", apart, []int{math.MaxInt, 0, 0, 0}, 9, nil, api.ErrShape},
		{"more than the limit", apart, []int{0, 0, 6000000001}, 9, nil, api.ErrRange},
		{"less than the limit", apart, []int{-6000000001, 0, 0}, 0, nil, api.ErrRange},
		{"nearly void", apart, []int{0, void - 1, void}, 0, nil, api.ErrRange},
		{"more than void", apart, []int{0, void + 1, void}, 0, nil, api.ErrRange},
		{"void below 0", apart, []int{0, -void, void}, 0, nil, api.ErrRange},
		{"the greatest phase of all", apart, []int{void, math.MaxInt, 0}, 0, nil, api.ErrRange},
		{"the least phase of all", apart, []int{math.MinInt, void, 0}, 1, nil, api.ErrRange},
		{"no such datum", apart, []int{0, 0, 0}, 3, nil, api.ErrMissing},
		{"a datum below 0", apart, []int{0, 0, 0}, -1, nil, api.ErrMissing},
		{"the greatest datum of all", apart, []int{0, 0, 0}, math.MaxInt, nil, api.ErrMissing},
		{"the least datum of all", apart, []int{0, 0, 0}, math.MinInt, nil, api.ErrMissing},
		{"no such datum of void phases", apart, []int{void, void, void}, 3, nil, api.ErrMissing},
		{"a void datum", apart, []int{0, void, 0}, 1, nil, api.ErrVoid},
		{"no scenes", stackOf(nil), nil, 0, nil, api.ErrMissing},
	} {
		s, before := copyOf(x.s), slices.Clone(x.phases)
		got, err := stack.Moved(s, x.phases, x.datum)
		expect(t, x.what, got, err, x.want, x.err)
		expect(t, "the stack behind Moved", s, api.OK, x.s, api.OK)
		expect(t, "the phases behind Moved", x.phases, api.OK, before, api.OK)
	}
}

// P7.7: the pairs that are open are those that do not suit the sums along the lightest forest.
func TestAnySolved(t *testing.T) {
	source := source(8)
	solved, broken := 0, 0
	for i := range 60 {
		s := source.stack(source.from(1, 30), source.below(60), 100)
		x, _ := source.task(s, i%2, 9, true)
		forest, _, err := stack.Lightest(s)
		expectError(t, "Lightest", err, api.OK)
		var want []int
		for k := range s.Pairs {
			if cycle, err := stack.CycleOf(s, forest, k); err == api.OK && closure(x.Phases, cycle) != 0 {
				want = append(want, k)
			}
		}
		datum := source.below(len(s.Scenes))
		phases, open, err := stack.Solved(x, datum)
		if len(want) > 0 {
			broken++
			expect(t, "the open pairs", open, err, want, api.ErrBreak)
			expect(t, "the phases of open pairs", phases, err, nil, api.ErrBreak)
			continue
		}
		solved++
		expect(t, "no open pairs", open, err, nil, api.OK)
		expectSolved(t, x, datum, phases)
	}
	if solved < 10 || broken < 10 {
		t.Errorf("%d tasks solved, %d not", solved, broken)
	}
}

// expectSolved goes by what the phases of scenes are to be.
func expectSolved(t *testing.T, x api.StackTask, datum int, phases []int) {
	t.Helper()
	number := parts(x.Net, numbers(x.Net))
	expect(t, "how many phases", len(phases), api.OK, len(number), api.OK)
	expect(t, "the phase of the datum", phases[datum], api.OK, 0, api.OK)
	for i, phase := range phases {
		expect(t, "a void phase", phase == void, api.OK, number[i] != number[datum], api.OK)
	}
	for i, p := range x.Net.Pairs {
		if number[p.First] == number[datum] {
			expect(t, "a difference", phases[p.Second]-phases[p.First], api.OK, x.Phases[i], api.OK)
		}
	}
}
