package stack_test

import (
	"math"
	"slices"
	"testing"

	"swath/api"
	"swath/stack"
)

func edge(from, to, jump, weight int) api.UnwrapEdge {
	return api.UnwrapEdge{From: from, To: to, Jump: jump, Weight: weight}
}

// triangle is a task whose closure is so many turns: its second pair is not in the lightest forest.
func triangle(turns int, weights ...int) api.StackTask {
	return task(stackOf(days(0, 1, 3), pair(0, 1), pair(0, 2), pair(1, 2)), []int{100, 300 + 4096*turns, 200}, weights)
}

// cost is the definition of the cost of corrections.
func cost(weights, turns []int) int {
	sum := 0
	for i, weight := range weights {
		sum += weight * size(turns[i])
	}
	return sum
}

// isRight tells by the definition whether all closed walks vanish behind corrections: along any forest the phases of the scenes are those of all pairs.
func isRight(x api.StackTask, turns []int) bool {
	corrected := make([]int, len(turns))
	for i, turn := range turns {
		corrected[i] = x.Phases[i] - 4096*turn
	}
	phases := make([]int, len(x.Net.Scenes))
	known := make([]bool, len(phases))
	for begin := range phases {
		if known[begin] {
			continue
		}
		known[begin] = true
		for range phases {
			for i, p := range x.Net.Pairs {
				switch {
				case known[p.First] && !known[p.Second]:
					phases[p.Second], known[p.Second] = phases[p.First]+corrected[i], true
				case known[p.Second] && !known[p.First]:
					phases[p.First], known[p.First] = phases[p.Second]-corrected[i], true
				}
			}
		}
	}
	for i, p := range x.Net.Pairs {
		if phases[p.Second]-phases[p.First] != corrected[i] {
			return false
		}
	}
	return true
}

// flowError goes by the definition of a right flow.
func flowError(n api.UnwrapNet, flow []int) api.Errno {
	if len(flow) != len(n.Edges) {
		return api.ErrShape
	}
	surplus := make([]int, n.Nodes)
	for i, e := range n.Edges {
		if size(flow[i]) > e.Weight {
			return api.ErrRange
		}
		surplus[e.To] += flow[i]
		surplus[e.From] -= flow[i]
	}
	if slices.ContainsFunc(surplus, func(n int) bool { return n != 0 }) {
		return api.ErrOpen
	}
	return api.OK
}

// expectCorrections expects corrections that are right, and a flow that proves that they cost least. It gives the corrections and their cost.
func expectCorrections(t *testing.T, what string, x api.StackTask) ([]int, int) {
	t.Helper()
	before := copyOfTask(x)
	turns, flow, least, err := stack.Corrections(x)
	expectError(t, "Corrections: "+what, err, api.OK)
	expect(t, "the task behind Corrections", x, api.OK, before, api.OK)
	if !isRight(x, turns) {
		t.Errorf("%s: %v are not right", what, turns)
	}
	got, err := stack.CheckCorrections(x, turns)
	expect(t, "CheckCorrections: "+what, got, err, cost(x.Weights, turns), api.OK)
	expect(t, "the cost: "+what, least, err, got, api.OK)
	n, err := stack.NetOf(x)
	expectError(t, "NetOf: "+what, err, api.OK)
	expectError(t, "the flow: "+what, flowError(n, flow), api.OK)
	value, err := stack.CheckFlow(x, flow)
	expect(t, "CheckFlow: "+what, value, err, least, api.OK)
	return turns, least
}

// allBest gives all best corrections of a small task whose phases close with some turns: all those that differ from these by turns of the scenes of at most so many.
func allBest(x api.StackTask, turns []int, reach int) ([][]int, int) {
	var found [][]int
	least := math.MaxInt
	more := make([]int, len(x.Net.Scenes))
	numbers := parts(x.Net, numbers(x.Net))
	var visit func(scene int)
	visit = func(scene int) {
		if scene == len(more) {
			l := slices.Clone(turns)
			for i, p := range x.Net.Pairs {
				l[i] += more[p.Second] - more[p.First]
			}
			c := cost(x.Weights, l)
			if c < least {
				found, least = nil, c
			}
			if c == least {
				found = append(found, l)
			}
			return
		}
		lo, hi := -reach, reach
		if slices.Index(numbers, numbers[scene]) == scene {
			lo, hi = 0, 0
		}
		for more[scene] = lo; more[scene] <= hi; more[scene]++ {
			visit(scene + 1)
		}
	}
	visit(0)
	return found, least
}

// varied gives the numbers at which lists differ.
func varied(l [][]int) []int {
	var numbers []int
	for i := range l[0] {
		if slices.ContainsFunc(l, func(other []int) bool { return other[i] != l[0][i] }) {
			numbers = append(numbers, i)
		}
	}
	return numbers
}

// P7.6
func TestNetOf(t *testing.T) {
	for _, x := range []struct {
		what string
		t    api.StackTask
		want api.UnwrapNet
		err  api.Errno
	}{
		{"the example", exampleTask(3, 2, 1, 5), api.UnwrapNet{Nodes: 4, Edges: []api.UnwrapEdge{edge(0, 1, 0, 3), edge(1, 2, -1, 2), edge(0, 2, 0, 1), edge(2, 3, 0, 5)}}, api.OK},
		{"a turn more", triangle(1, 0, 1000, 7), api.UnwrapNet{Nodes: 3, Edges: []api.UnwrapEdge{edge(0, 1, 0, 0), edge(0, 2, 1, 1000), edge(1, 2, 0, 7)}}, api.OK},
		{"nothing", task(stackOf(nil), nil, nil), api.UnwrapNet{}, api.OK},
		{"no pairs", task(stackOf(sameDay(3)), nil, nil), api.UnwrapNet{Nodes: 3}, api.OK},
		{"1000 turns", triangle(1000, 1, 2, 3), api.UnwrapNet{Nodes: 3, Edges: []api.UnwrapEdge{edge(0, 1, 0, 1), edge(0, 2, 1000, 2), edge(1, 2, 0, 3)}}, api.OK},
		{"-1000 turns", triangle(-1000, 1, 2, 3), api.UnwrapNet{Nodes: 3, Edges: []api.UnwrapEdge{edge(0, 1, 0, 1), edge(0, 2, -1000, 2), edge(1, 2, 0, 3)}}, api.OK},
		{"1001 turns", triangle(1001, 0, 0, 0), api.UnwrapNet{}, api.ErrLarge},
		{"-1001 turns", triangle(-1001, 1, 1, 1), api.UnwrapNet{}, api.ErrLarge},
		{"no whole turns", task(example(), []int{1000, 501, 5596, -300}, equal(4, 0)), api.UnwrapNet{}, api.ErrUnit},
		{"half a turn", task(example(), []int{2048, 0, 0, 0}, equal(4, 1)), api.UnwrapNet{}, api.ErrUnit},
		{"many turns, but no whole ones", task(example(), []int{100000000, 0, 0, 0}, equal(4, 1)), api.UnwrapNet{}, api.ErrUnit},
		{"many turns ahead of no whole ones", task(stackOf(sameDay(4), allPairs(4)...), []int{0, 0, 0, 4096 * 1001, 1, 0}, equal(6, 1)), api.UnwrapNet{}, api.ErrUnit},
		{"many turns of a bridge", task(example(), []int{0, 0, 0, 100000000}, equal(4, 1)), api.UnwrapNet{Nodes: 4, Edges: []api.UnwrapEdge{edge(0, 1, 0, 1), edge(1, 2, 0, 1), edge(0, 2, 0, 1), edge(2, 3, 0, 1)}}, api.OK},
	} {
		before := copyOfTask(x.t)
		n, err := stack.NetOf(x.t)
		expect(t, "how many nodes: "+x.what, n.Nodes, err, x.want.Nodes, x.err)
		expect(t, "the edges: "+x.what, n.Edges, err, x.want.Edges, x.err)
		expect(t, "the task behind NetOf", x.t, api.OK, before, api.OK)
		if x.err == api.OK {
			continue
		}
		turns, flow, least, err := stack.Corrections(x.t)
		expect(t, "Corrections: "+x.what, turns, err, nil, x.err)
		expect(t, "the flow of Corrections: "+x.what, flow, err, nil, x.err)
		expect(t, "the cost of Corrections: "+x.what, least, err, 0, x.err)
		value, err := stack.CheckFlow(x.t, []int{math.MaxInt})
		expect(t, "CheckFlow: "+x.what, value, err, 0, x.err)
		pairs, err := stack.Undetermined(x.t)
		expect(t, "Undetermined: "+x.what, pairs, err, nil, x.err)
	}
}

// P7.6: the jumps are the misses, and these the closures of the cycles of the lightest forest.
func TestAnyNetOf(t *testing.T) {
	source := source(10)
	for range 40 {
		s := source.stack(source.from(1, 30), source.below(80), 100)
		x, _ := source.task(s, 3, 1000, true)
		forest, _, err := stack.Lightest(s)
		expectError(t, "Lightest", err, api.OK)
		n, err := stack.NetOf(x)
		expect(t, "how many nodes", n.Nodes, err, len(s.Scenes), api.OK)
		expect(t, "how many edges", len(n.Edges), err, len(s.Pairs), api.OK)
		for i, p := range s.Pairs {
			jump := 0
			if cycle, err := stack.CycleOf(s, forest, i); err == api.OK {
				jump = closure(x.Phases, cycle) / 4096
			}
			expect(t, "an edge", n.Edges[i], err, edge(p.First, p.Second, jump, x.Weights[i]), api.OK)
		}
	}
}

// P7.6
func TestCorrections(t *testing.T) {
	for _, x := range []struct {
		what  string
		t     api.StackTask
		turns []int
		cost  int
	}{
		{"the example", exampleTask(3, 2, 1, 5), []int{0, 0, 1, 0}, 1},
		{"the first pair is the lightest", exampleTask(1, 2, 3, 5), []int{-1, 0, 0, 0}, 1},
		{"the second pair is the lightest", exampleTask(9, 2, 3, 5), []int{0, -1, 0, 0}, 2},
		{"a bridge for nothing", exampleTask(9, 2, 3, 1), []int{0, -1, 0, 0}, 2},
		{"closed", task(example(), []int{1000, 500, 1500, -300}, []int{3, 2, 1, 5}), []int{0, 0, 0, 0}, 0},
		{"1000 turns", triangle(1000, 8, 7, 9), []int{0, 1000, 0}, 7000},
		{"-1000 turns", triangle(-1000, 8, 1000, 9), []int{1000, 0, 0}, 8000},
		{"no pairs", task(stackOf(sameDay(3)), nil, nil), nil, 0},
		{"no scenes", task(stackOf(nil), nil, nil), nil, 0},
	} {
		turns, least := expectCorrections(t, x.what, x.t)
		expect(t, x.what, turns, api.OK, x.turns, api.OK)
		expect(t, "the cost: "+x.what, least, api.OK, x.cost, api.OK)
	}
	_, least := expectCorrections(t, "three best corrections", exampleTask(1, 1, 1, 5))
	expect(t, "the cost of each of three", least, api.OK, 1, api.OK)
	_, least = expectCorrections(t, "weights of 0", exampleTask(0, 0, 0, 0))
	expect(t, "the cost of weights of 0", least, api.OK, 0, api.OK)
}

// P7.6: the best corrections of all.
func TestAnyCorrections(t *testing.T) {
	source := source(11)
	undetermined, determined := 0, 0
	for i := range 60 {
		scenes := source.from(2, 5)
		s := source.stack(scenes, source.from(1, 10), 100)
		x, closing := source.task(s, 1, [3]int{1, 3, 1000}[i%3], i%2 == 0)
		best, least := allBest(x, closing, scenes)
		_, got := expectCorrections(t, "a small task", x)
		expect(t, "the least cost", got, api.OK, least, api.OK)
		want := varied(best)
		pairs, err := stack.Undetermined(x)
		expect(t, "Undetermined", pairs, err, want, api.OK)
		undetermined += len(want)
		determined += len(s.Pairs) - len(want)
	}
	if undetermined < 20 || determined < 20 {
		t.Errorf("%d pairs are undetermined, %d are not", undetermined, determined)
	}
}

// P7.6: corrections of pairs of weight 0 are accepted, too, however many turns the others leave to them.
func TestGreatCorrections(t *testing.T) {
	source := source(12)
	for i := range 12 {
		s := source.stack(60, 200, [2]int{0, 100000}[i%2])
		x, _ := source.task(s, 100, 1000, i%3 == 0)
		if i%4 == 0 {
			x.Weights = equal(200, 1000)
		}
		expectCorrections(t, "a great task", x)
	}
	// Around a ring of 60 scenes each pair has the same phase; a pair of weight 0 has all the turns.
	ring := stackOf(sameDay(60), pair(0, 59))
	for i := range 59 {
		ring.Pairs = append(ring.Pairs, pair(i, i+1))
	}
	x := task(ring, equal(60, 16*4096), append([]int{0}, equal(59, 1000)...))
	turns, least := expectCorrections(t, "a ring", x)
	expect(t, "the cost of a ring", least, api.OK, 0, api.OK)
	expect(t, "the turns of a ring", turns, api.OK, append([]int{16 - 59*16}, equal(59, 0)...), api.OK)
}

// P7.6
func TestCheckCorrections(t *testing.T) {
	for _, x := range []struct {
		what  string
		t     api.StackTask
		turns []int
		want  int
		err   api.Errno
	}{
		{"the example", exampleTask(3, 2, 1, 5), []int{0, 0, 1, 0}, 1, api.OK},
		{"the first pair", exampleTask(3, 2, 1, 5), []int{-1, 0, 0, 0}, 3, api.OK},
		{"a bridge, too", exampleTask(3, 2, 1, 5), []int{0, -1, 0, 7}, 37, api.OK},
		{"all pairs", exampleTask(3, 2, 1, 5), []int{5, -9, -3, -1}, 15 + 18 + 3 + 5, api.OK},
		{"no weight", exampleTask(0, 0, 0, 0), []int{0, 0, 1, 0}, 0, api.OK},
		{"the limits", exampleTask(1000, 1000, 1000, 1000), []int{1000000, -1, 1000000, -1000000}, 3000001000, api.OK},
		{"no scenes", task(stackOf(nil), nil, nil), nil, 0, api.OK},
		{"more than 1000 turns", triangle(1001, 1, 2, 3), []int{0, 1001, 0}, 2002, api.OK},
		{"no corrections", exampleTask(3, 2, 1, 5), nil, 0, api.ErrShape},
		{"too few", exampleTask(3, 2, 1, 5), []int{math.MaxInt, 0, 1}, 0, api.ErrShape},
		{"too many", exampleTask(3, 2, 1, 5), []int{0, 0, 1, 0, math.MaxInt}, 0, api.ErrShape},
		{"one of no stack", task(stackOf(nil), nil, nil), []int{0}, 0, api.ErrShape},
		{"1000001 turns", exampleTask(3, 2, 1, 5), []int{0, 0, 1, 1000001}, 0, api.ErrRange},
		{"-1000001 turns", exampleTask(3, 2, 1, 5), []int{-1000001, 0, 0, 0}, 0, api.ErrRange},
		{"the greatest turns of all", exampleTask(3, 2, 1, 5), []int{0, math.MaxInt, 0, 0}, 0, api.ErrRange},
		{"the least turns of all", exampleTask(3, 2, 1, 5), []int{0, 0, 0, math.MinInt}, 0, api.ErrRange},
		{"no turns", exampleTask(3, 2, 1, 5), []int{0, 0, 0, 0}, 0, api.ErrBreak},
		{"a turn the other way round", exampleTask(3, 2, 1, 5), []int{0, 0, -1, 0}, 0, api.ErrBreak},
		{"two turns", exampleTask(0, 0, 0, 0), []int{-1, 0, 1, 0}, 0, api.ErrBreak},
		{"no whole turns", task(example(), []int{1000, 501, 5596, -300}, equal(4, 0)), []int{0, 0, 1, 0}, 0, api.ErrBreak},
		{"a wrong turn of the other part", task(stackOf(sameDay(6), pair(0, 1), pair(3, 4), pair(4, 5), pair(3, 5)), equal(4, 0), equal(4, 1)), []int{1, 1, 1, 1}, 0, api.ErrBreak},
	} {
		before, turns := copyOfTask(x.t), slices.Clone(x.turns)
		got, err := stack.CheckCorrections(x.t, x.turns)
		expect(t, x.what, got, err, x.want, x.err)
		expect(t, "the task behind CheckCorrections", x.t, api.OK, before, api.OK)
		expect(t, "the turns behind CheckCorrections", x.turns, api.OK, turns, api.OK)
	}
}

// P7.6: all corrections of a few turns.
func TestAllCorrections(t *testing.T) {
	source := source(13)
	right := 0
	for range 8 {
		s := source.stack(4, source.from(3, 5), 100)
		x, _ := source.task(s, 1, 9, true)
		turns := slices.Repeat([]int{-2}, len(s.Pairs))
		for i := 0; i < len(turns); {
			got, err := stack.CheckCorrections(x, turns)
			if isRight(x, turns) {
				right++
				expect(t, "right corrections", got, err, cost(x.Weights, turns), api.OK)
			} else {
				expect(t, "wrong corrections", got, err, 0, api.ErrBreak)
			}
			for i = 0; i < len(turns); i++ {
				if turns[i]++; turns[i] <= 2 {
					break
				}
				turns[i] = -2
			}
		}
	}
	if right < 100 {
		t.Errorf("only %d corrections are right", right)
	}
}

// P7.6
func TestCheckFlow(t *testing.T) {
	x := exampleTask(3, 2, 1, 5)
	for _, z := range []struct {
		what string
		flow []int
		want int
		err  api.Errno
	}{
		{"the example", []int{-1, -1, 1, 0}, 1, api.OK},
		{"the other way round", []int{1, 1, -1, 0}, -1, api.OK},
		{"no flow", []int{0, 0, 0, 0}, 0, api.OK},
		{"nothing", nil, 0, api.ErrShape},
		{"too few numbers", []int{9, 9, 9}, 0, api.ErrShape},
		{"too many numbers", []int{-1, -1, 1, 0, 0}, 0, api.ErrShape},
		{"more than a weight", []int{-2, -2, 2, 0}, 0, api.ErrRange},
		{"less than a weight", []int{-4, 0, 0, 1}, 0, api.ErrRange},
		{"the greatest number of all", []int{0, 0, 0, math.MaxInt}, 0, api.ErrRange},
		{"the least number of all", []int{0, math.MinInt, 0, 0}, 0, api.ErrRange},
		{"open", []int{-1, -1, 1, 1}, 0, api.ErrOpen},
		{"open at the first scene", []int{-1, -1, 0, 0}, 0, api.ErrOpen},
	} {
		flow := slices.Clone(z.flow)
		got, err := stack.CheckFlow(x, z.flow)
		expect(t, z.what, got, err, z.want, z.err)
		expect(t, "the flow behind CheckFlow", z.flow, api.OK, flow, api.OK)
	}
	expect(t, "the task behind CheckFlow", x, api.OK, exampleTask(3, 2, 1, 5), api.OK)
	got, err := stack.CheckFlow(task(stackOf(nil), nil, nil), nil)
	expect(t, "no scenes", got, err, 0, api.OK)
}

// P7.6
func TestUndetermined(t *testing.T) {
	for _, x := range []struct {
		what string
		t    api.StackTask
		want []int
	}{
		{"the example", exampleTask(3, 2, 1, 5), nil},
		{"three equal weights", exampleTask(1, 1, 1, 5), []int{0, 1, 2}},
		{"two equal weights", exampleTask(9, 1, 1, 5), []int{1, 2}},
		{"equal weights that close", task(example(), []int{1000, 500, 1500, -300}, equal(4, 1)), nil},
		{"a pair of weight 0 whose scenes others connect", exampleTask(3, 2, 0, 5), nil},
		{"a bridge of weight 0", exampleTask(3, 2, 1, 0), []int{3}},
		{"a bridge of weight 0 that closes", task(example(), []int{1000, 500, 1500, -300}, []int{3, 2, 1, 0}), []int{3}},
		{"two pairs of weight 0", exampleTask(0, 2, 0, 5), []int{0, 2}},
		{"all of weight 0", exampleTask(0, 0, 0, 0), []int{0, 1, 2, 3}},
		{"no pairs", task(stackOf(sameDay(3)), nil, nil), nil},
		{"no scenes", task(stackOf(nil), nil, nil), nil},
	} {
		before := copyOfTask(x.t)
		got, err := stack.Undetermined(x.t)
		expect(t, x.what, got, err, x.want, api.OK)
		expect(t, "the task behind Undetermined", x.t, api.OK, before, api.OK)
	}
}

// P7.6: a pair whose turns are undetermined has other ones as soon as it weighs a little more or less.
func TestUndeterminedOfGreatTasks(t *testing.T) {
	source := source(14)
	undetermined := 0
	for i := range 8 {
		s := source.stack(20, 50, 100)
		x, _ := source.task(s, 1, 2+i%3, false)
		for k := range x.Weights {
			x.Weights[k] *= 100
		}
		turns, least := expectCorrections(t, "a task", x)
		got, err := stack.Undetermined(x)
		expectError(t, "Undetermined", err, api.OK)
		undetermined += len(got)
		for k := range s.Pairs {
			other := copyOfTask(x)
			other.Weights[k]++
			_, more := expectCorrections(t, "a greater weight", other)
			other.Weights[k] -= 2
			_, less := expectCorrections(t, "a lesser weight", other)
			// The cost grows and shrinks by the size of the turns of this pair, unless there are other best ones.
			varies := more-least != size(turns[k]) || least-less != size(turns[k])
			expect(t, "an undetermined pair", slices.Contains(got, k), api.OK, varies, api.OK)
		}
	}
	if undetermined < 30 {
		t.Errorf("only %d pairs are undetermined", undetermined)
	}
}
