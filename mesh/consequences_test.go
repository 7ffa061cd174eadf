package mesh_test

import (
	"slices"
	"testing"

	"swath/api"
	"swath/mesh"
)

// P6.9
func TestLeastCost(t *testing.T) {
	numbers := source(18)
	for i := range 60 {
		x := numbers.task(t, numbers.from(3, 40), [3]int{4, 20, 10000}[i%3], [3]int{2, 30, 1000}[i/3%3], i%2 == 0)
		_, least := expectUnwrapped(t, "a task", x)
		cost, err := mesh.CheckTurns(x, numbers.rightTurns(x, 2))
		expectError(t, "CheckTurns", err, api.OK)
		if cost < least {
			t.Errorf("some turns cost %d, those of least cost %d", cost, least)
		}
	}
}

// P6.9: with the greatest costs, and with many closures that are not 0.
func TestGreatTasks(t *testing.T) {
	numbers := source(19)
	for range 10 {
		x := numbers.task(t, 40, 4, 1000, false)
		for k := range x.Costs {
			x.Costs[k] = 1000
		}
		for p := range x.Phases {
			x.Phases[p] = numbers.from(-1, 1) * 1500
		}
		expectUnwrapped(t, "a task", x)
		if n := len(x.Phases); n != 40 {
			t.Errorf("%d points", n)
		}
	}
}

// P6.9, P6.10
func TestNoClosures(t *testing.T) {
	numbers := source(20)
	for range 30 {
		x := numbers.task(t, numbers.from(3, 40), 30, 9, false)
		base := numbers.from(-2048, 2047)
		for p := range x.Phases {
			x.Phases[p] = wrapped(base + numbers.from(0, 2047))
		}
		closures, err := mesh.Closures(x.Net, x.Phases)
		expect(t, "the closures", closures, err, make([]int, len(x.Net.Triangles)), api.OK)
		turns, cost := expectUnwrapped(t, "a task without closures", x)
		expect(t, "the turns", turns, api.OK, make([]int, len(x.Costs)), api.OK)
		expect(t, "the cost", cost, api.OK, 0, api.OK)
		undecided, err := mesh.Undecided(x)
		expect(t, "Undecided", undecided, err, nil, api.OK)
		for k := range x.Costs {
			x.Costs[k] = 0
		}
		undecided, err = mesh.Undecided(x)
		expect(t, "Undecided without costs", undecided, err, edgesOf(x.Net), api.OK)
		cost, err = mesh.CheckTurns(x, make([]int, len(x.Costs)))
		expect(t, "no turns without costs", cost, err, 0, api.OK)
	}
}

// P6.10
func TestFieldsOfLeastCost(t *testing.T) {
	numbers := source(21)
	for range 30 {
		x := numbers.task(t, numbers.from(3, 40), 30, 9, true)
		turns, _ := expectUnwrapped(t, "a task", x)
		field, err := mesh.Field(x.Net, x.Phases, turns)
		expectError(t, "Field", err, api.OK)
		var phases []int
		for _, phase := range field {
			phases = append(phases, wrapped(phase))
		}
		expect(t, "the wrapped phases of a field", phases, api.OK, x.Phases, api.OK)
		want, err := mesh.Differences(x.Net, x.Phases)
		expectError(t, "Differences", err, api.OK)
		var steps []int
		for _, e := range edgesOf(x.Net) {
			steps = append(steps, wrapped(field[e[1]]-field[e[0]]))
		}
		expect(t, "the wrapped differences of a field", steps, api.OK, want, api.OK)
	}
}

// P6.5: an edge whose turns are undecided has other ones as soon as it costs a little more or less.
func TestUndecidedOfGreatTasks(t *testing.T) {
	numbers := source(22)
	undecided := 0
	for i := range 12 {
		x := numbers.task(t, 20, 30, 2+i%3, false)
		for k := range x.Costs {
			x.Costs[k] *= 100
		}
		turns, cost := expectUnwrapped(t, "a task", x)
		got, err := mesh.Undecided(x)
		expectError(t, "Undecided", err, api.OK)
		undecided += len(got)
		for k, e := range edgesOf(x.Net) {
			other := copyOfTask(x)
			other.Costs[k]++
			_, more := expectUnwrapped(t, "a greater cost", other)
			other.Costs[k] -= 2
			_, less := expectUnwrapped(t, "a lesser cost", other)
			// The cost grows and shrinks by the size of the turns at this edge, unless there are others of least cost.
			varies := more-cost != size(turns[k]) || cost-less != size(turns[k])
			expect(t, "an undecided edge", slices.Contains(got, e), api.OK, varies, api.OK)
		}
	}
	if undecided < 30 {
		t.Errorf("only %d edges are undecided", undecided)
	}
}

// P6.11
func TestOneComponent(t *testing.T) {
	numbers := source(23)
	for range 30 {
		n := numbers.net(t, numbers.from(3, 40), 30)
		count := len(edgesOf(n))
		least, err := mesh.Components(n, slices.Repeat([]bool{true}, count))
		expect(t, "all edges", least, err, make([]int, len(n.Points)), api.OK)
		least, err = mesh.Components(n, make([]bool, count))
		for p, first := range least {
			expect(t, "no edges", first, err, p, api.OK)
		}
	}
}

// R3: the results of a call share no memory.
func TestOwnMemory(t *testing.T) {
	x := cornerTask(5, 3, 9)
	turns, potentials, _, _ := mesh.Unwrap(x)
	clear(turns)
	expect(t, "the potentials beside changed turns", potentials, api.OK, []int{-3}, api.OK)
	differences, _ := mesh.Differences(x.Net, x.Phases)
	closures, _ := mesh.Closures(x.Net, x.Phases)
	undecided, _ := mesh.Undecided(cornerTask(3, 3, 3))
	field, _ := mesh.Field(x.Net, x.Phases, []int{0, 1, 0})
	for _, l := range [][]int{potentials, differences, closures, field} {
		clear(l)
	}
	clear(undecided)
	expect(t, "the task behind its results", x, api.OK, cornerTask(5, 3, 9), api.OK)
}
