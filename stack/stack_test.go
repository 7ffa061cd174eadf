package stack_test

import (
	"math"
	"testing"

	"swath/api"
	"swath/stack"
)

// rightStacks are stacks that CheckNet accepts.
func rightStacks() []api.StackNet {
	return []api.StackNet{
		example(),
		stackOf(nil),
		stackOf(sameDay(1)),
		stackOf(sameDay(60)),
		fullStack(),
		stackOf([]api.StackScene{scene("abcdefghijkl", 0, -100000), scene("Z-09---z", 100000, 100000), scene("a", 100000, 0), scene("A", 0, 0)}, pair(0, 3), pair(1, 2)),
		stackOf(sameDay(3), pair(1, 2), pair(0, 2), pair(0, 1)),
	}
}

// P7.1
func TestCheckNet(t *testing.T) {
	for _, s := range rightStacks() {
		before := copyOf(s)
		number, err := stack.CheckNet(s)
		expect(t, "a stack", number, err, 0, api.OK)
		expect(t, "the stack behind CheckNet", s, api.OK, before, api.OK)
	}
	for _, x := range stackFaults() {
		number, err := stack.CheckNet(x.s)
		expect(t, x.what, number, err, x.at, x.err)
	}
}

// The errors of a stack are those of all functions that take one, ahead of their own.
func TestErrorsOfStacks(t *testing.T) {
	for _, x := range stackFaults() {
		parts, err := stack.Parts(x.s)
		expect(t, "Parts: "+x.what, parts, err, nil, x.err)
		bridges, err := stack.Bridges(x.s)
		expect(t, "Bridges: "+x.what, bridges, err, nil, x.err)
		forest, length, err := stack.Lightest(x.s)
		expect(t, "Lightest: "+x.what, forest, err, nil, x.err)
		expect(t, "the length of Lightest: "+x.what, length, err, 0, x.err)
		length, err = stack.CheckForest(x.s, []int{-1})
		expect(t, "CheckForest: "+x.what, length, err, 0, x.err)
		cycle, err := stack.CycleOf(x.s, []int{-1}, -1)
		expect(t, "CycleOf: "+x.what, cycle, err, nil, x.err)
		cycles, err := stack.Cycles(x.s, []int{-1})
		expect(t, "Cycles: "+x.what, cycles, err, nil, x.err)
		cycles, err = stack.Triangles(x.s)
		expect(t, "Triangles: "+x.what, cycles, err, nil, x.err)
		expectError(t, "CheckCycle: "+x.what, stack.CheckCycle(x.s, nil), x.err)
		phases, err := stack.Moved(x.s, []int{math.MaxInt}, -1)
		expect(t, "Moved: "+x.what, phases, err, nil, x.err)
		text, err := stack.Print(x.s)
		expect(t, "Print: "+x.what, text, err, "", x.err)
	}
}

// P7.5
func TestCheckTask(t *testing.T) {
	for _, s := range rightStacks() {
		expectError(t, "a task of noughts", stack.CheckTask(task(s, equal(len(s.Pairs), 0), equal(len(s.Pairs), 0))), api.OK)
	}
	great := task(example(), []int{100000000, -100000000, 0, 7}, []int{0, 1000, 1, 999})
	before := copyOfTask(great)
	expectError(t, "great numbers", stack.CheckTask(great), api.OK)
	expect(t, "the task behind CheckTask", great, api.OK, before, api.OK)
	for _, x := range taskFaults() {
		expectError(t, x.what, stack.CheckTask(x.t), x.err)
	}
}

// The errors of a task are those of all functions that take one, ahead of their own.
func TestErrorsOfTasks(t *testing.T) {
	for _, x := range taskFaults() {
		closure, err := stack.Closure(x.t, nil)
		expect(t, "Closure: "+x.what, closure, err, 0, x.err)
		cycle, closure, err := stack.FirstOpen(x.t)
		expect(t, "FirstOpen: "+x.what, cycle, err, nil, x.err)
		expect(t, "the closure of FirstOpen: "+x.what, closure, err, 0, x.err)
		n, err := stack.NetOf(x.t)
		expect(t, "NetOf: "+x.what, n, err, api.UnwrapNet{}, x.err)
		turns, flow, cost, err := stack.Corrections(x.t)
		expect(t, "Corrections: "+x.what, turns, err, nil, x.err)
		expect(t, "the flow of Corrections: "+x.what, flow, err, nil, x.err)
		expect(t, "the cost of Corrections: "+x.what, cost, err, 0, x.err)
		cost, err = stack.CheckCorrections(x.t, []int{math.MaxInt})
		expect(t, "CheckCorrections: "+x.what, cost, err, 0, x.err)
		value, err := stack.CheckFlow(x.t, []int{math.MaxInt})
		expect(t, "CheckFlow: "+x.what, value, err, 0, x.err)
		pairs, err := stack.Undetermined(x.t)
		expect(t, "Undetermined: "+x.what, pairs, err, nil, x.err)
		phases, open, err := stack.Solved(x.t, -1)
		expect(t, "Solved: "+x.what, phases, err, nil, x.err)
		expect(t, "the pairs of Solved: "+x.what, open, err, nil, x.err)
	}
}
