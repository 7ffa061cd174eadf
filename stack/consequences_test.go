package stack_test

import (
	"slices"
	"testing"

	"swath/api"
	"swath/stack"
)

// corrected gives a task with corrections.
func corrected(x api.StackTask, turns []int) api.StackTask {
	x = copyOfTask(x)
	for i, turn := range turns {
		x.Phases[i] -= 4096 * turn
	}
	return x
}

// P7.8
func TestClosed(t *testing.T) {
	source := source(15)
	walks := 0
	for i := range 30 {
		s := source.stack(source.from(3, 30), source.from(3, 60), 100)
		x, _ := source.task(s, 3, 9, i%2 == 0)
		turns, _ := expectCorrections(t, "a task", x)
		closed := corrected(x, turns)
		datum := source.below(len(s.Scenes))
		phases, open, err := stack.Solved(closed, datum)
		expect(t, "the open pairs behind corrections", open, err, nil, api.OK)
		expectSolved(t, closed, datum, phases)
		for scene := range s.Scenes {
			l := source.walk(s, scene, 20)
			if l == nil {
				continue
			}
			walks++
			got, err := stack.Closure(closed, l)
			expect(t, "a closure behind corrections", got, err, 0, api.OK)
			got, err = stack.Closure(x, l)
			expect(t, "a closure", got, err, closure(x.Phases, l), api.OK)
			expect(t, "what is beside whole turns", got%4096, err, 0, api.OK)
		}
	}
	if walks < 100 {
		t.Errorf("only %d walks", walks)
	}
}

// P7.8: the cycles of any forest tell whether all closures are whole turns.
func TestCyclesOfAnyForest(t *testing.T) {
	source := source(16)
	whole, broken := 0, 0
	for range 60 {
		s := source.stack(source.from(3, 15), source.from(3, 30), 100)
		x, _ := source.task(s, 2, 9, true)
		if len(s.Pairs) > 0 && source.below(2) == 0 {
			x.Phases[source.below(len(s.Pairs))] += source.from(1, 4095)
		}
		cycles, err := stack.Cycles(s, source.forest(s))
		expectError(t, "Cycles", err, api.OK)
		open := false
		for _, l := range cycles {
			got, err := stack.Closure(x, l)
			expectError(t, "Closure", err, api.OK)
			open = open || got%4096 != 0
		}
		_, err = stack.NetOf(x)
		expect(t, "open cycles", err == api.ErrUnit, api.OK, open, api.OK)
		_, _, err = stack.FirstOpen(x)
		expect(t, "a first open cycle", err == api.OK, api.OK, open, api.OK)
		if open {
			broken++
		} else {
			whole++
		}
	}
	if whole < 10 || broken < 10 {
		t.Errorf("%d tasks with whole turns, %d without", whole, broken)
	}
}

// P7.9
func TestAnyTree(t *testing.T) {
	source := source(17)
	for range 40 {
		s := source.stack(source.from(1, 30), source.below(60), 100)
		x, turns := source.task(s, 0, 9, true)
		expect(t, "no turns", turns, api.OK, make([]int, len(s.Pairs)), api.OK)
		datum := source.below(len(s.Scenes))
		phases, _, err := stack.Solved(x, datum)
		expectError(t, "Solved", err, api.OK)
		forest := source.forest(s)
		for scene, phase := range phases {
			way, ok := wayBetween(s, forest, datum, scene)
			expect(t, "a void phase", phase == void, api.OK, !ok, api.OK)
			if ok {
				expect(t, "a phase along a forest", phase, api.OK, closure(x.Phases, way), api.OK)
				other, _, err := stack.Solved(x, scene)
				expectError(t, "Solved with another datum", err, api.OK)
				moved, err := stack.Moved(s, phases, scene)
				expect(t, "Moved", moved, err, other, api.OK)
				back, err := stack.Moved(s, moved, datum)
				expect(t, "Moved and back", back, err, phases, api.OK)
			}
		}
	}
}

// flow gives a right flow: it goes along closed walks as far as the weights let it, unless its value falls.
func (s *source) flow(x api.StackTask) []int {
	flow, best := make([]int, len(x.Net.Pairs)), 0
	for range 100 {
		changed := slices.Clone(flow)
		for _, step := range s.walk(x.Net, s.below(len(x.Net.Scenes)), s.from(2, 5)) {
			changed[step.Pair] += step.Sign
		}
		if value, err := stack.CheckFlow(x, changed); err == api.OK && value >= best {
			flow, best = changed, value
		}
	}
	return flow
}

// P7.10
func TestLeastCorrections(t *testing.T) {
	source := source(18)
	above := 0
	for range 40 {
		s := source.stack(source.from(3, 10), source.from(6, 20), 100)
		x, turns := source.task(s, 2, 5, true)
		_, least := expectCorrections(t, "a task", x)
		more := source.numbers(len(s.Scenes), -2, 2)
		for i, p := range s.Pairs {
			turns[i] += more[p.Second] - more[p.First]
		}
		got, err := stack.CheckCorrections(x, turns)
		expect(t, "right corrections", got, err, cost(x.Weights, turns), api.OK)
		value, err := stack.CheckFlow(x, source.flow(x))
		expectError(t, "CheckFlow", err, api.OK)
		if value > least || least > got {
			t.Errorf("a flow of %d, corrections that cost %d, and the least cost %d", value, got, least)
		}
		if value > 0 {
			above++
		}
	}
	if above < 10 {
		t.Errorf("only %d flows are above 0", above)
	}
}

// P7.10
func TestBridgesAreNotCorrected(t *testing.T) {
	source := source(19)
	found := 0
	for range 40 {
		scenes := source.from(3, 30)
		s := source.stack(scenes, source.from(scenes, 2*scenes)-1, 100)
		x, _ := source.task(s, 3, 9, true)
		turns, _ := expectCorrections(t, "a task", x)
		bridges, err := stack.Bridges(s)
		expectError(t, "Bridges", err, api.OK)
		undetermined, err := stack.Undetermined(x)
		expectError(t, "Undetermined", err, api.OK)
		for _, pair := range bridges {
			if x.Weights[pair] > 0 {
				found++
				expect(t, "the turns of a bridge", turns[pair], api.OK, 0, api.OK)
				expect(t, "an undetermined bridge", slices.Contains(undetermined, pair), api.OK, false, api.OK)
			}
		}
	}
	if found < 50 {
		t.Errorf("only %d bridges", found)
	}
}

// P7.11
func TestLightestForests(t *testing.T) {
	source := source(20)
	for i := range 40 {
		scenes := source.from(1, 60)
		s := source.stack(scenes, source.from(0, min(200, 4*scenes)), [3]int{1, 100, 100000}[i%3])
		forest, sum, err := stack.Lightest(s)
		expectError(t, "Lightest", err, api.OK)
		got, err := stack.CheckForest(s, forest)
		expect(t, "CheckForest of Lightest", got, err, sum, api.OK)
		number, err := stack.Parts(s)
		expectError(t, "Parts", err, api.OK)
		other := source.forest(s)
		for _, l := range [][]int{forest, other} {
			expect(t, "how many pairs", len(l), api.OK, scenes-count(number), api.OK)
		}
		more, err := stack.CheckForest(s, other)
		expect(t, "CheckForest", more, err, length(s, other), api.OK)
		if more < sum {
			t.Errorf("a forest with %d, the lightest one with %d", more, sum)
		}
		cycles, err := stack.Cycles(s, forest)
		expectError(t, "Cycles", err, api.OK)
		for _, l := range cycles {
			// Of pairs of one length the forest has those with lesser numbers.
			for _, step := range l[1:] {
				own, along := length(s, []int{l[0].Pair}), length(s, []int{step.Pair})
				if own < along || own == along && l[0].Pair < step.Pair {
					t.Errorf("the pair %d suits the forest better than %d", l[0].Pair, step.Pair)
				}
			}
		}
		bridges, err := stack.Bridges(s)
		expectError(t, "Bridges", err, api.OK)
		for _, pair := range bridges {
			expect(t, "a bridge in a forest", slices.Contains(other, pair) && slices.Contains(forest, pair), api.OK, true, api.OK)
		}
	}
}

// R3: the results of a call share no memory.
func TestOwnMemory(t *testing.T) {
	x := exampleTask(1, 1, 1, 5)
	x.Net.Pairs = append(x.Net.Pairs, pair(1, 3))
	x.Phases, x.Weights = append(x.Phases, 4096+200), append(x.Weights, 2)
	before := copyOfTask(x)
	turns, flow, _, _ := stack.Corrections(x)
	wantFlow := slices.Clone(flow)
	clear(turns)
	expect(t, "the flow beside changed turns", flow, api.OK, wantFlow, api.OK)
	forest, _, _ := stack.Lightest(x.Net)
	for _, list := range []func() ([][]api.StackStep, api.Errno){
		func() ([][]api.StackStep, api.Errno) { return stack.Cycles(x.Net, forest) },
		func() ([][]api.StackStep, api.Errno) { return stack.Triangles(x.Net) },
	} {
		cycles, _ := list()
		want, err := list()
		expect(t, "how many cycles", len(cycles), err, 2, api.OK)
		clear(append(cycles[0], step(9, 9)))
		expect(t, "a cycle beside a changed one", cycles[1], err, want[1], api.OK)
		again, err := list()
		expect(t, "the cycles again", again, err, want, api.OK)
	}
	n, _ := stack.NetOf(x)
	clear(n.Edges)
	phases, _, _ := stack.Solved(corrected(x, []int{0, 0, 1, 0, 1}), 0)
	moved, err := stack.Moved(x.Net, phases, 0)
	clear(phases)
	expect(t, "Moved behind its changed argument", moved, err, []int{0, 1000, 1500, 1200}, api.OK)
	expect(t, "the task behind its results", x, api.OK, before, api.OK)
}
