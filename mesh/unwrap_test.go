package mesh_test

import (
	"math"
	"slices"
	"testing"

	"swath/api"
	"swath/mesh"
)

// P6.5
func TestCheckTurns(t *testing.T) {
	even := task(kite(), equal(5, 0), []int{1, 2, 3, 4, 5, 6, 7, 8})
	spun := task(kite(), []int{0, 1500, -1500, 0, -1500}, []int{1, 2, 3, 4, 5, 6, 7, 8})
	for _, x := range []struct {
		what  string
		t     api.MeshTask
		turns []int
		want  int
		err   api.Errno
	}{
		{"the example", cornerTask(5, 3, 9), []int{0, 1, 0}, 3, api.OK},
		{"others", cornerTask(5, 3, 9), []int{-1, 0, 0}, 5, api.OK},
		{"the last others", cornerTask(5, 3, 9), []int{0, 0, -1}, 9, api.OK},
		{"many turns", cornerTask(1000, 1000, 1000), []int{100, 100, -1}, 201000, api.OK},
		{"many turns back", cornerTask(5, 3, 9), []int{-100, -100, -1}, 809, api.OK},
		{"no cost", cornerTask(0, 0, 0), []int{7, 9, 1}, 0, api.OK},
		{"no turns", even, make([]int, 8), 0, api.OK},
		{"a turn at each edge of a point", even, []int{1, 1, 1, 0, 0, 0, 0, 0}, 6, api.OK},
		{"a turn at each edge of another point", even, []int{0, 0, 1, 0, 1, 0, 1, 1}, 23, api.OK},
		{"too few", cornerTask(5, 3, 9), []int{0, 101}, 0, api.ErrShape},
		{"too many", cornerTask(5, 3, 9), []int{0, 1, 0, 0}, 0, api.ErrShape},
		{"none", cornerTask(5, 3, 9), nil, 0, api.ErrShape},
		{"101 turns", cornerTask(5, 3, 9), []int{0, 101, 100}, 0, api.ErrRange},
		{"-101 turns", cornerTask(5, 3, 9), []int{0, 0, -101}, 0, api.ErrRange},
		{"the greatest turns of all", cornerTask(5, 3, 9), []int{0, math.MaxInt, 0}, 0, api.ErrRange},
		{"the least turns of all", cornerTask(5, 3, 9), []int{math.MinInt, 0, 0}, 0, api.ErrRange},
		{"an open triangle", cornerTask(5, 3, 9), []int{0, 0, 0}, 0, api.ErrCycle},
		{"a triangle that is opened", even, []int{1, 0, 0, 0, 0, 0, 0, 0}, 0, api.ErrCycle},
		{"an open triangle behind others", even, []int{0, 0, 0, 0, 0, 1, 0, 0}, 3, api.ErrCycle},
		{"two open triangles behind another one", even, []int{0, 0, 0, 0, 0, 0, 1, 0}, 2, api.ErrCycle},
		{"the second triangle", even, []int{0, 1, 0, 0, 0, 0, 0, 0}, 1, api.ErrCycle},
		{"no turns where some are to be", spun, make([]int, 8), firstOf(closuresOf(t, spun.Net, spun.Phases)), api.ErrCycle},
	} {
		before, turnsBefore := copyOfTask(x.t), slices.Clone(x.turns)
		got, err := mesh.CheckTurns(x.t, x.turns)
		expect(t, x.what, got, err, x.want, x.err)
		expect(t, "the task behind CheckTurns", x.t, api.OK, before, api.OK)
		expect(t, "the turns behind CheckTurns", x.turns, api.OK, turnsBefore, api.OK)
	}
}

// firstOf gives the number of the first item that is not 0.
func firstOf(l []int) int {
	return slices.IndexFunc(l, func(n int) bool { return n != 0 })
}

// P6.5
func TestCheckPotentials(t *testing.T) {
	even := task(kite(), equal(5, 0), []int{1, 2, 3, 4, 5, 6, 7, 8})
	back := task(corner(), []int{0, -1500, 1500}, []int{5, 3, 9})
	for _, x := range []struct {
		what       string
		t          api.MeshTask
		potentials []int
		want       int
		err        api.Errno
	}{
		{"the example", cornerTask(5, 3, 9), []int{-3}, 3, api.OK},
		{"less", cornerTask(5, 3, 9), []int{-1}, 1, api.OK},
		{"the other way round", cornerTask(5, 3, 9), []int{3}, -3, api.OK},
		{"a closure of -1", back, []int{3}, 3, api.OK},
		{"a closure of -1 the other way round", back, []int{-3}, -3, api.OK},
		{"0", cornerTask(5, 3, 0), []int{0}, 0, api.OK},
		{"all differ by their costs", even, []int{1, -2, 4, 4}, 0, api.OK},
		{"too few", cornerTask(5, 3, 9), nil, 0, api.ErrShape},
		{"too many", cornerTask(5, 3, 9), []int{-3, 1000001}, 0, api.ErrShape},
		{"10^6 and 1", cornerTask(5, 3, 9), []int{1000001}, 0, api.ErrRange},
		{"less than -10^6", cornerTask(5, 3, 9), []int{-1000001}, 0, api.ErrRange},
		{"a wrong one ahead of one out of range", even, []int{50, 0, 0, -1000001}, 0, api.ErrRange},
		{"the greatest of all", cornerTask(5, 3, 9), []int{math.MaxInt}, 0, api.ErrRange},
		{"the least of all", cornerTask(5, 3, 9), []int{math.MinInt}, 0, api.ErrRange},
		{"10^6", cornerTask(5, 3, 9), []int{1000000}, 0, api.ErrProof},
		{"more than a cost", cornerTask(5, 3, 9), []int{-4}, 0, api.ErrProof},
		{"more than a cost the other way round", cornerTask(5, 3, 9), []int{4}, 0, api.ErrProof},
		{"more than a cost of 0", cornerTask(5, 0, 9), []int{-1}, 0, api.ErrProof},
		{"more than the cost at the border", even, []int{2, 0, 0, 0}, 0, api.ErrProof},
		{"more than the cost between two triangles", even, []int{1, -2, -4, 4}, 0, api.ErrProof},
		{"more than the cost of an edge from the outside", even, []int{0, -3, 0, 0}, 0, api.ErrProof},
	} {
		before, potentialsBefore := copyOfTask(x.t), slices.Clone(x.potentials)
		got, err := mesh.CheckPotentials(x.t, x.potentials)
		expect(t, x.what, got, err, x.want, x.err)
		expect(t, "the task behind CheckPotentials", x.t, api.OK, before, api.OK)
		expect(t, "the potentials behind CheckPotentials", x.potentials, api.OK, potentialsBefore, api.OK)
	}
}

// potentialsError goes by the definition of right potentials.
func potentialsError(x api.MeshTask, potentials []int) api.Errno {
	of := func(triangle int) int {
		if triangle < 0 {
			return 0
		}
		return potentials[triangle]
	}
	for k, e := range edgesOf(x.Net) {
		if size(of(leftOf(x.Net, e))-of(leftOf(x.Net, [2]int{e[1], e[0]}))) > x.Costs[k] {
			return api.ErrProof
		}
	}
	return api.OK
}

// P6.5
func TestCheckersByDefinition(t *testing.T) {
	numbers := source(15)
	proofs := 0
	for i := range 150 {
		x := numbers.task(t, numbers.from(4, 8), 9, 9, true)
		for k := range x.Costs {
			x.Costs[k] += 5
		}
		closures := closuresOf(t, x.Net, x.Phases)
		potentials := numbers.numbers(len(x.Net.Triangles), -4, 4)
		bound := 0
		for triangle, closure := range closures {
			bound -= closure * potentials[triangle]
		}
		want := potentialsError(x, potentials)
		if want != api.OK {
			bound = 0
		} else {
			proofs++
		}
		got, err := mesh.CheckPotentials(x, potentials)
		expect(t, "CheckPotentials by its definition", got, err, bound, want)
		turns := numbers.rightTurns(x, 5)
		if i%2 == 0 {
			turns[numbers.below(len(turns))]--
		}
		cost, wantErr := 0, api.OK
		for k, turn := range turns {
			cost += x.Costs[k] * size(turn)
		}
		for triangle := range slices.Backward(closures) {
			if closures[triangle]+around(x.Net, triangle, turns) != 0 {
				cost, wantErr = triangle, api.ErrCycle
			}
		}
		got, err = mesh.CheckTurns(x, turns)
		expect(t, "CheckTurns by its definition", got, err, cost, wantErr)
	}
	if proofs < 20 || proofs > 130 {
		t.Errorf("%d of 150 potentials are right", proofs)
	}
}

// expectUnwrapped checks what Unwrap gives by the proofs, and gives its turns and its cost.
func expectUnwrapped(t *testing.T, what string, x api.MeshTask) ([]int, int) {
	t.Helper()
	before := copyOfTask(x)
	turns, potentials, cost, err := mesh.Unwrap(x)
	expectError(t, what, err, api.OK)
	expect(t, "the task behind Unwrap", x, api.OK, before, api.OK)
	got, err := mesh.CheckTurns(x, turns)
	expect(t, "CheckTurns: "+what, got, err, cost, api.OK)
	got, err = mesh.CheckPotentials(x, potentials)
	expect(t, "CheckPotentials: "+what, got, err, cost, api.OK)
	return turns, cost
}

// P6.5
func TestUnwrap(t *testing.T) {
	for _, x := range []struct {
		what  string
		t     api.MeshTask
		turns []int
		cost  int
	}{
		{"the example", cornerTask(5, 3, 9), []int{0, 1, 0}, 3},
		{"the first edge", cornerTask(2, 3, 9), []int{-1, 0, 0}, 2},
		{"the last edge", cornerTask(5, 3, 1), []int{0, 0, -1}, 1},
		{"a closure of -1", task(corner(), []int{0, -1500, 1500}, []int{5, 3, 9}), []int{0, -1, 0}, 3},
		{"the greatest costs", cornerTask(1000, 999, 1000), []int{0, 1, 0}, 999},
		{"even phases", task(kite(), equal(5, 5), equal(8, 1)), make([]int, 8), 0},
	} {
		turns, cost := expectUnwrapped(t, x.what, x.t)
		expect(t, x.what, turns, api.OK, x.turns, api.OK)
		expect(t, "the cost: "+x.what, cost, api.OK, x.cost, api.OK)
	}
	_, cost := expectUnwrapped(t, "no costs", cornerTask(0, 0, 0))
	expect(t, "no costs", cost, api.OK, 0, api.OK)
}

// allBest is the definition of turns of least cost, made by all whole turns of the points. On a way through all points the turns of some best field differ by at most one at each, and the others among them by one more.
func allBest(x api.MeshTask) ([][]int, int) {
	edges, differences := edgesOf(x.Net), differencesOf(x.Net, x.Phases)
	reach := len(x.Phases)
	var found [][]int
	least := math.MaxInt
	more := make([]int, len(x.Phases))
	turns := make([]int, len(edges))
	var try func(point int)
	try = func(point int) {
		if point < len(more) {
			for more[point] = -reach; more[point] <= reach; more[point]++ {
				try(point + 1)
			}
			return
		}
		cost := 0
		for k, e := range edges {
			step := x.Phases[e[1]] + 4096*more[e[1]] - x.Phases[e[0]] - 4096*more[e[0]]
			turns[k] = (step - differences[k]) / 4096
			cost += x.Costs[k] * size(turns[k])
		}
		if cost < least {
			found, least = nil, cost
		}
		if cost == least {
			found = append(found, slices.Clone(turns))
		}
	}
	try(1)
	return found, least
}

// undecidedOf gives the edges at which turns differ.
func undecidedOf(x api.MeshTask, best [][]int) [][2]int {
	var edges [][2]int
	for k, e := range edgesOf(x.Net) {
		if slices.ContainsFunc(best, func(turns []int) bool { return turns[k] != best[0][k] }) {
			edges = append(edges, e)
		}
	}
	return edges
}

// expectBest compares a task with all turns of least cost.
func expectBest(t *testing.T, what string, x api.MeshTask) [][2]int {
	t.Helper()
	best, least := allBest(x)
	_, cost := expectUnwrapped(t, what, x)
	expect(t, "the least cost: "+what, cost, api.OK, least, api.OK)
	before := copyOfTask(x)
	want := undecidedOf(x, best)
	got, err := mesh.Undecided(x)
	expect(t, "Undecided: "+what, got, err, want, api.OK)
	expect(t, "the task behind Undecided", x, api.OK, before, api.OK)
	return got
}

// P6.5
func TestUnwrapByDefinition(t *testing.T) {
	numbers := source(16)
	undecided, decided := 0, 0
	for i := range 120 {
		count := 3 + i%3 + i%20/19
		x := numbers.task(t, count, 5, 1+i%4, i%5 == 0)
		got := expectBest(t, "a task", x)
		undecided += len(got)
		decided += len(x.Costs) - len(got)
	}
	if undecided < 50 || decided < 50 {
		t.Errorf("%d edges are undecided, %d are not", undecided, decided)
	}
}

// P6.5
func TestUndecided(t *testing.T) {
	all := [][2]int{{0, 1}, {0, 2}, {1, 2}}
	square := net(points(0, 0, 4, 0, 4, 4, 0, 4), [3]int{0, 1, 2}, [3]int{0, 2, 3})
	for _, x := range []struct {
		what string
		t    api.MeshTask
		want [][2]int
	}{
		{"the example", cornerTask(3, 3, 9), all[:2]},
		{"one edge costs less", cornerTask(5, 3, 9), nil},
		{"all edges cost the same", cornerTask(3, 3, 3), all},
		{"one edge costs nothing", cornerTask(5, 0, 9), nil},
		{"two edges cost nothing", cornerTask(5, 0, 0), all[1:]},
		{"nothing costs anything", cornerTask(0, 0, 0), all},
		{"no turns", task(corner(), equal(3, 0), []int{1, 1, 1}), nil},
		{"no turns, and one edge costs nothing", task(corner(), equal(3, 0), []int{0, 1, 1}), nil},
		{"no turns, and two edges cost nothing", task(corner(), equal(3, 0), []int{0, 1, 0}), [][2]int{{0, 1}, {1, 2}}},
		{"ways over two edges", task(square, []int{0, 1500, -1500, -1096}, []int{5, 1, 1, 5, 1}), [][2]int{{0, 3}, {2, 3}}},
		{"ways over one edge and over two", task(square, []int{0, 1500, -1500, -1096}, []int{2, 1, 1, 5, 1}), [][2]int{{0, 1}, {0, 2}, {0, 3}, {2, 3}}},
	} {
		expect(t, x.what, expectBest(t, x.what, x.t), api.OK, x.want, api.OK)
	}
}
