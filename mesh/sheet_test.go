package mesh_test

import (
	"math"
	"slices"
	"testing"

	"swath/api"
	"swath/mesh"
)

// differencesOf is the definition of the differences of the edges.
func differencesOf(n api.MeshNet, phases []int) []int {
	var differences []int
	for _, e := range edgesOf(n) {
		differences = append(differences, wrapped(phases[e[1]]-phases[e[0]]))
	}
	return differences
}

// around gives the sum along the directed edges of a triangle of numbers of the edges.
func around(n api.MeshNet, triangle int, numbers []int) int {
	sum := 0
	edges := edgesOf(n)
	for _, e := range directed(n.Triangles[triangle]) {
		for k, edge := range edges {
			switch edge {
			case e:
				sum += numbers[k]
			case [2]int{e[1], e[0]}:
				sum -= numbers[k]
			}
		}
	}
	return sum
}

// closuresOf is the definition of the closures of the triangles.
func closuresOf(t *testing.T, n api.MeshNet, phases []int) []int {
	t.Helper()
	var closures []int
	for triangle := range n.Triangles {
		sum := around(n, triangle, differencesOf(n, phases))
		expect(t, "the parts beside whole turns", sum%4096, api.OK, 0, api.OK)
		closures = append(closures, sum/4096)
	}
	return closures
}

// P6.4
func TestCheckTask(t *testing.T) {
	for _, x := range []api.MeshTask{
		cornerTask(5, 3, 9),
		cornerTask(0, 1000, 0),
		task(corner(), []int{-2048, 2047, 0}, []int{1, 1, 1}),
		task(kite(), []int{0, 1, 2, 3, 4}, equal(8, 1)),
	} {
		before := copyOfTask(x)
		expectError(t, "a task", mesh.CheckTask(x), api.OK)
		expect(t, "the task behind CheckTask", x, api.OK, before, api.OK)
	}
	for _, x := range taskFaults() {
		expectError(t, x.what, mesh.CheckTask(x.t), x.err)
	}
}

// The errors of a task are those of all functions that take one, ahead of their own.
func TestErrorsOfTasks(t *testing.T) {
	for _, x := range taskFaults() {
		cost, err := mesh.CheckTurns(x.t, []int{5000})
		expect(t, "CheckTurns: "+x.what, cost, err, 0, x.err)
		bound, err := mesh.CheckPotentials(x.t, []int{5000000, 0})
		expect(t, "CheckPotentials: "+x.what, bound, err, 0, x.err)
		turns, potentials, cost, err := mesh.Unwrap(x.t)
		expect(t, "Unwrap: "+x.what, turns, err, nil, x.err)
		expect(t, "the potentials of Unwrap: "+x.what, potentials, err, nil, x.err)
		expect(t, "the cost of Unwrap: "+x.what, cost, err, 0, x.err)
		edges, err := mesh.Undecided(x.t)
		expect(t, "Undecided: "+x.what, edges, err, nil, x.err)
	}
	for _, x := range phasesFaults() {
		differences, err := mesh.Differences(corner(), x.phases)
		expect(t, "Differences: "+x.what, differences, err, nil, x.err)
		closures, err := mesh.Closures(corner(), x.phases)
		expect(t, "Closures: "+x.what, closures, err, nil, x.err)
		field, err := mesh.Field(corner(), x.phases, []int{5000})
		expect(t, "Field: "+x.what, field, err, nil, x.err)
	}
}

// P6.4
func TestDifferencesAndClosures(t *testing.T) {
	for _, x := range []struct {
		what                  string
		phases                []int
		differences, closures []int
	}{
		{"the example", []int{0, 1500, -1500}, []int{1500, -1500, 1096}, []int{1}},
		{"the other way round", []int{0, -1500, 1500}, []int{-1500, 1500, -1096}, []int{-1}},
		{"no turn", []int{0, 100, -100}, []int{100, -100, -200}, []int{0}},
		{"half a turn", []int{0, -2048, -2048}, []int{-2048, -2048, 0}, []int{0}},
		{"half a turn at one edge", []int{0, -2048, 0}, []int{-2048, 0, -2048}, []int{-1}},
		{"half a turn from the last point", []int{-2048, 0, 0}, []int{-2048, -2048, 0}, []int{0}},
		{"half a turn to the last point", []int{0, 0, -2048}, []int{0, -2048, -2048}, []int{0}},
		{"more than half a turn", []int{-2048, 2047, 0}, []int{-1, -2048, -2047}, []int{0}},
		{"just less than half a turn", []int{0, 2047, 0}, []int{2047, 0, -2047}, []int{0}},
		{"just more than half a turn", []int{-1, 2047, 0}, []int{-2048, 1, -2047}, []int{-1}},
	} {
		before := slices.Clone(x.phases)
		got, err := mesh.Differences(corner(), x.phases)
		expect(t, "differences: "+x.what, got, err, x.differences, api.OK)
		got, err = mesh.Closures(corner(), x.phases)
		expect(t, "closures: "+x.what, got, err, x.closures, api.OK)
		expect(t, "the phases behind Closures", x.phases, api.OK, before, api.OK)
	}
	numbers := source(12)
	counts := map[int]int{}
	for i := range 40 {
		n := numbers.net(t, numbers.from(4, 15), 9)
		phases := numbers.numbers(len(n.Points), -2048, 2047)
		if i%2 == 0 {
			for p := range phases {
				phases[p] = numbers.from(-2, 1) * 1024
			}
		}
		got, err := mesh.Differences(n, phases)
		expect(t, "Differences by their definition", got, err, differencesOf(n, phases), api.OK)
		got, err = mesh.Closures(n, phases)
		expect(t, "Closures by their definition", got, err, closuresOf(t, n, phases), api.OK)
		for _, closure := range got {
			counts[closure]++
		}
	}
	if len(counts) != 3 || counts[0] == 0 || counts[1] == 0 || counts[-1] == 0 {
		t.Errorf("the closures are %v", counts)
	}
}

// P6.9: the closures are together the sum of the differences along the border.
func TestClosuresAndTheBorder(t *testing.T) {
	numbers := source(13)
	for range 40 {
		n := numbers.net(t, numbers.from(3, 40), 30)
		phases := numbers.numbers(len(n.Points), -2048, 2047)
		closures, err := mesh.Closures(n, phases)
		expectError(t, "Closures", err, api.OK)
		sum := 0
		edges := edgesOf(n)
		for k, difference := range differencesOf(n, phases) {
			e := edges[k]
			if leftOf(n, e) < 0 {
				sum -= difference
			}
			if leftOf(n, [2]int{e[1], e[0]}) < 0 {
				sum += difference
			}
		}
		for _, closure := range closures {
			sum -= 4096 * closure
		}
		expect(t, "the sum along the border, less the closures", sum, api.OK, 0, api.OK)
	}
}

// P6.5
func TestField(t *testing.T) {
	phases := []int{0, 1500, -1500}
	for _, x := range []struct {
		what  string
		turns []int
		want  []int
		err   api.Errno
	}{
		{"the example", []int{0, 1, 0}, []int{0, 1500, 2596}, api.OK},
		{"others", []int{-1, 0, 0}, []int{0, -2596, -1500}, api.OK},
		{"a turn between the others", []int{0, 0, -1}, []int{0, 1500, -1500}, api.OK},
		{"many turns", []int{100, 100, -1}, []int{0, 411100, 408100}, api.OK},
		{"too few", []int{0, 101}, nil, api.ErrShape},
		{"too many", []int{0, 1, 0, 0}, nil, api.ErrShape},
		{"none", nil, nil, api.ErrShape},
		{"101 turns", []int{0, 101, 100}, nil, api.ErrRange},
		{"-101 turns", []int{0, -100, -101}, nil, api.ErrRange},
		{"the greatest turns of all", []int{math.MaxInt, 0, 0}, nil, api.ErrRange},
		{"the least turns of all", []int{0, 0, math.MinInt}, nil, api.ErrRange},
		{"an open triangle", []int{0, 0, 0}, nil, api.ErrCycle},
		{"another one", []int{0, 1, 1}, nil, api.ErrCycle},
	} {
		got, err := mesh.Field(corner(), phases, x.turns)
		expect(t, x.what, got, err, x.want, x.err)
	}
	expect(t, "the phases behind Field", phases, api.OK, []int{0, 1500, -1500}, api.OK)
	got, err := mesh.Field(kite(), []int{7, 7, 7, 7, 7}, make([]int, 8))
	expect(t, "even phases", got, err, equal(5, 7), api.OK)
	got, err = mesh.Field(kite(), []int{-2048, 0, 0, 0, 0}, []int{0, 0, 0, 0, 0, 0, 0, 0})
	expect(t, "half a turn", got, err, []int{-2048, -4096, -4096, -4096, -4096}, api.OK)
}

// rightTurns gives turns that close all triangles: those of a field whose points have any whole turns.
func (s *source) rightTurns(x api.MeshTask, most int) []int {
	more := s.numbers(len(x.Phases), -most, most)
	var turns []int
	edges := edgesOf(x.Net)
	for k, difference := range differencesOf(x.Net, x.Phases) {
		e := edges[k]
		from, to := x.Phases[e[0]]+4096*more[e[0]], x.Phases[e[1]]+4096*more[e[1]]
		turns = append(turns, (to-from-difference)/4096)
	}
	return turns
}

// P6.5, P6.10
func TestFieldByDefinition(t *testing.T) {
	numbers := source(14)
	for range 40 {
		x := numbers.task(t, numbers.from(4, 25), 12, 9, true)
		turns := numbers.rightTurns(x, 40)
		before := slices.Clone(turns)
		field, err := mesh.Field(x.Net, x.Phases, turns)
		expectError(t, "Field", err, api.OK)
		expect(t, "the turns behind Field", turns, api.OK, before, api.OK)
		expect(t, "the phase of the point 0", field[0], api.OK, x.Phases[0], api.OK)
		for p, phase := range field {
			expect(t, "a wrapped phase of a field", wrapped(phase), api.OK, x.Phases[p], api.OK)
		}
		edges := edgesOf(x.Net)
		for k, difference := range differencesOf(x.Net, x.Phases) {
			e := edges[k]
			step := field[e[1]] - field[e[0]]
			expect(t, "a step of a field", step, api.OK, difference+4096*turns[k], api.OK)
			expect(t, "a wrapped step of a field", wrapped(step), api.OK, difference, api.OK)
		}
		number := numbers.below(len(turns))
		turns[number]++
		field, err = mesh.Field(x.Net, x.Phases, turns)
		expect(t, "Field with a wrong turn", field, err, nil, api.ErrCycle)
	}
}
