package unwrap_test

import (
	"math"
	"slices"
	"testing"

	"swath/api"
	"swath/unwrap"
)

// P5.4
func TestCheckTask(t *testing.T) {
	for _, x := range []api.UnwrapTask{
		square(),
		task(row(-2048), nil, nil),
		task(row(void), nil, nil),
		task(row(-2048, 2047, void), []int{0, 1000}, nil),
		task(phases(3, 1, 0, void, 1), nil, []int{1000, 0}),
		evenTask(phases(12, 12, make([]int, 144)...), 1000),
		evenTask(phases(64, 2, make([]int, 128)...), 1),
		evenTask(phases(2, 64, make([]int, 128)...), 1),
	} {
		expectError(t, "a task", unwrap.CheckTask(x), api.OK)
	}
	for _, x := range taskFaults() {
		expectError(t, x.what, unwrap.CheckTask(x.t), x.err)
	}
}

// The errors of a task are those of all functions that take one, ahead of their own.
func TestErrorsOfTasks(t *testing.T) {
	for _, x := range taskFaults() {
		n, err := unwrap.NetOf(x.t)
		expect(t, "NetOf: "+x.what, n, err, api.UnwrapNet{}, x.err)
		u, flow, cost, err := unwrap.Unwrap(x.t)
		expect(t, "Unwrap: "+x.what, u, err, api.PhaseMap{}, x.err)
		expect(t, "the flow of Unwrap: "+x.what, flow, err, nil, x.err)
		expect(t, "the cost of Unwrap: "+x.what, cost, err, 0, x.err)
		cost, err = unwrap.CheckField(x.t, api.PhaseMap{})
		expect(t, "CheckField: "+x.what, cost, err, 0, x.err)
		cost, err = unwrap.CheckFlow(x.t, []int{5000})
		expect(t, "CheckFlow: "+x.what, cost, err, 0, x.err)
		pairs, err := unwrap.Cuts(x.t, api.PhaseMap{})
		expect(t, "Cuts: "+x.what, pairs, err, nil, x.err)
		pairs, err = unwrap.Undecided(x.t)
		expect(t, "Undecided: "+x.what, pairs, err, nil, x.err)
	}
}

// P5.4
func TestNetOf(t *testing.T) {
	holed := task(phases(2, 3, 0, 0, 2047, -1, void, -2048), []int{1, 2, 3, 4}, []int{5, 6, 7})
	for _, x := range []struct {
		what string
		t    api.UnwrapTask
		want api.UnwrapNet
	}{
		{"the example", square(), net(4, edge(0, 1, 0, 5), edge(2, 3, 0, 4), edge(0, 2, 0, 3), edge(1, 3, -1, 2))},
		{"void pixels", holed, net(6, edge(0, 1, 0, 1), edge(1, 2, 0, 2), edge(0, 3, 0, 5), edge(2, 5, -1, 7))},
		{"half a turn to the right", task(row(0, -2048, 0, 1, -2047), []int{1, 2, 3, 4}, nil), net(5, edge(0, 1, 0, 1), edge(1, 2, 1, 2), edge(2, 3, 0, 3), edge(3, 4, 0, 4))},
		{"half a turn down", task(phases(4, 1, -1024, 1024, -1024, 1023), nil, []int{1, 2, 3}), net(4, edge(0, 1, 1, 1), edge(1, 2, 0, 2), edge(2, 3, 0, 3))},
		{"more than half a turn", task(row(-2048, 2047, -2048), []int{1, 2}, nil), net(3, edge(0, 1, 1, 1), edge(1, 2, -1, 2))},
		{"weights of 0", task(row(0, 1, 2), []int{0, 0}, nil), net(3, edge(0, 1, 0, 0), edge(1, 2, 0, 0))},
		{"one pixel", task(row(7), nil, nil), net(1)},
		{"void pixels alone", task(row(void, void), []int{3}, nil), net(2)},
	} {
		before := copyOfTask(x.t)
		got, err := unwrap.NetOf(x.t)
		expect(t, x.what, got, err, x.want, api.OK)
		expect(t, "the task behind NetOf", x.t, api.OK, before, api.OK)
	}
}

// netOf is the definition of the net of a task: pixel by pixel it looks at all pairs.
func netOf(x api.UnwrapTask) api.UnwrapNet {
	columns := x.Map.Columns
	n := net(len(x.Map.Phases))
	for _, down := range []bool{false, true} {
		for from := range x.Map.Phases {
			to, weights, at := from+1, x.Across, from/columns*(columns-1)+from%columns
			if down {
				to, weights, at = from+columns, x.Down, from
			}
			if to >= n.Nodes || !down && to/columns != from/columns || x.Map.Phases[from] == void || x.Map.Phases[to] == void {
				continue
			}
			difference := x.Map.Phases[to] - x.Map.Phases[from]
			n.Edges = append(n.Edges, edge(from, to, (difference-wrapped(difference))/4096, weights[at]))
		}
	}
	return n
}

// P5.4
func TestNetOfByDefinition(t *testing.T) {
	numbers := source(5)
	for range 40 {
		x := numbers.task(numbers.from(1, 12), numbers.from(1, 12), 0, 1000, numbers.below(2)*5)
		got, err := unwrap.NetOf(x)
		expect(t, "NetOf", got, err, netOf(x), api.OK)
	}
}

// P5.4
func TestCheckField(t *testing.T) {
	holed := task(row(0, void, 2000, -2000), []int{1, 2, 3}, nil)
	for _, x := range []struct {
		what string
		t    api.UnwrapTask
		u    api.PhaseMap
		want int
		err  api.Errno
	}{
		{"the wrapped phases", square(), square().Map, 2, api.OK},
		{"all more", square(), phases(2, 2, 4096, 5596, 2596, 3000), 2, api.OK},
		{"a turn at the last pixel", square(), phases(2, 2, 0, 1500, -1500, 3000), 4, api.OK},
		{"two turns back at the first pixel", square(), phases(2, 2, -8192, 1500, -1500, -1096), 18, api.OK},
		{"void pixels", holed, row(0, void, 2000, -2000), 3, api.OK},
		{"void pixels and a turn", holed, row(4096, void, 2000, 2096), 0, api.OK},
		{"great phases", task(row(256, 256), []int{1000}, nil), row(100000000, -99999488), 48828 * 1000, api.OK},
		{"one row too few", square(), phases(1, 2, 0, 1500), 0, api.ErrShape},
		{"the other way round", task(row(0, 0), []int{1}, nil), phases(2, 1, 0, 0), 0, api.ErrShape},
		{"other columns", task(row(0, 0), []int{1}, nil), phases(1, 3, 0, 0), 0, api.ErrShape},
		{"other rows", task(row(0, 0), []int{1}, nil), phases(2, 2, 0, 0), 0, api.ErrShape},
		{"a phase too few", square(), phases(2, 2, 0, 1, void), 0, api.ErrShape},
		{"a phase too many", square(), phases(2, 2, 0, 1500, -1500, -1096, 0), 0, api.ErrShape},
		{"nothing", square(), api.PhaseMap{}, 0, api.ErrShape},
		{"a void pixel", square(), phases(2, 2, 0, void, 1, 2), 0, api.ErrVoid},
		{"a pixel that is not void", holed, row(0, 0, 1, 2), 0, api.ErrVoid},
		{"a great phase at a void pixel", holed, row(0, 100000001, 1, 2), 0, api.ErrVoid},
		{"a great phase", square(), phases(2, 2, 0, 1500, 100001060, void), 0, api.ErrRange},
		{"a small phase", square(), phases(2, 2, 0, -100000036, -1500, -1096), 0, api.ErrRange},
		{"a great phase that differs by no whole turns", square(), phases(2, 2, 0, 100000001, 1, 2), 0, api.ErrRange},
		{"the greatest phase of all", square(), phases(2, 2, math.MaxInt, 0, 0, 0), 0, api.ErrRange},
		{"the least phase of all", square(), phases(2, 2, math.MinInt, 0, 0, 0), 0, api.ErrRange},
		{"no whole turns", square(), phases(2, 2, 0, 1501, -1500, void), 0, api.ErrUnit},
		{"half a turn", square(), phases(2, 2, -2048, 100000001, -1500, -1096), 0, api.ErrUnit},
	} {
		before, beforeField := copyOfTask(x.t), copyOfMap(x.u)
		got, err := unwrap.CheckField(x.t, x.u)
		expect(t, x.what, got, err, x.want, x.err)
		pairs, err := unwrap.Cuts(x.t, x.u)
		if x.err != api.OK {
			expect(t, "Cuts: "+x.what, pairs, err, nil, x.err)
		}
		expect(t, "the task behind "+x.what, x.t, api.OK, before, api.OK)
		expect(t, "the field behind "+x.what, x.u, api.OK, beforeField, api.OK)
	}
}

// firstPixels gives the first pixel of each part that is not void.
func firstPixels(t *testing.T, x api.UnwrapTask) []int {
	t.Helper()
	n, err := unwrap.NetOf(x)
	expectError(t, "NetOf", err, api.OK)
	parts, err := unwrap.Parts(n)
	expectError(t, "Parts", err, api.OK)
	var first []int
	for pixel, part := range parts {
		if x.Map.Phases[pixel] != void && slices.Index(parts, part) == pixel {
			first = append(first, pixel)
		}
	}
	return first
}

// expectUnwrapped looks whether Unwrap proves what it gives, and gives the field and its cost.
func expectUnwrapped(t *testing.T, what string, x api.UnwrapTask) (api.PhaseMap, int) {
	t.Helper()
	before := copyOfTask(x)
	u, flow, cost, err := unwrap.Unwrap(x)
	expectError(t, what, err, api.OK)
	expect(t, what+": the task behind Unwrap", x, api.OK, before, api.OK)
	got, err := unwrap.CheckField(x, u)
	expect(t, what+": the cost of the field", got, err, cost, api.OK)
	got, err = unwrap.CheckFlow(x, flow)
	expect(t, what+": the value of the flow", got, err, cost, api.OK)
	for _, pixel := range firstPixels(t, x) {
		expect(t, what+": the first phase of a part", u.Phases[pixel], api.OK, x.Map.Phases[pixel], api.OK)
	}
	return u, cost
}

// P5.5
func TestUnwrap(t *testing.T) {
	for _, x := range []struct {
		what string
		t    api.UnwrapTask
		want api.PhaseMap
		cost int
	}{
		{"the example", square(), phases(2, 2, 0, 1500, -1500, -1096), 2},
		{"a row", evenTask(row(0, 1500, -1096, 404, 1904, -692), 1), row(0, 1500, 3000, 4500, 6000, 7500), 0},
		{"a column back", evenTask(phases(4, 1, 0, -1500, 1096, -404), 7), phases(4, 1, 0, -1500, -3000, -4500), 0},
		{"half turns", evenTask(row(0, -2048, 0), 1), row(0, -2048, -4096), 0},
		{"a void pixel between", evenTask(row(0, 1500, void, 1500, -1096), 1), row(0, 1500, void, 1500, 3000), 0},
		{"parts beside one another", task(row(0, 2000, -2000, 0), []int{1, 0, 1}, nil), row(0, 2000, -2000, 0), 0},
		{"a part behind half a turn", task(row(0, 2000, -1000, 1500), []int{1, 0, 1}, nil), row(0, 2000, -1000, -2596), 0},
		{"one pixel", evenTask(row(-2048), 1), row(-2048), 0},
		{"a void pixel alone", evenTask(row(void), 1), row(void), 0},
	} {
		got, cost := expectUnwrapped(t, x.what, x.t)
		expect(t, x.what, got, api.OK, x.want, api.OK)
		expect(t, "the cost of "+x.what, cost, api.OK, x.cost, api.OK)
	}
	around := phases(3, 3, 0, 512, 1024, -512, void, 1536, -1024, -1536, -2048)
	_, cost := expectUnwrapped(t, "around a void pixel", evenTask(around, 2))
	expect(t, "the cost of a turn around a void pixel", cost, api.OK, 2, api.OK)
}

// P5.5
func TestUnwrapByDefinition(t *testing.T) {
	numbers := source(6)
	costs := 0
	for _, shape := range [][2]int{{2, 2}, {2, 2}, {1, 4}, {4, 1}} {
		for i := range 60 {
			x := numbers.task(shape[0], shape[1], i%2, 4, numbers.below(2)*6)
			best, least := allBest(netOf(x))
			u, cost := expectUnwrapped(t, "a small task", x)
			expect(t, "the cost", cost, api.OK, least, api.OK)
			costs += cost
			var undecided, cuts [][2]int
			for _, e := range netOf(x).Edges {
				r := between(best, e.From, e.To)
				if !joins(netOf(x), e.From, e.To) || r.Lo != r.Hi {
					undecided = append(undecided, [2]int{e.From, e.To})
				}
				if more := u.Phases[e.To] - u.Phases[e.From]; more != wrapped(x.Map.Phases[e.To]-x.Map.Phases[e.From]) {
					cuts = append(cuts, [2]int{e.From, e.To})
				}
			}
			got, err := unwrap.Undecided(x)
			expect(t, "Undecided", got, err, undecided, api.OK)
			got, err = unwrap.Cuts(x, u)
			expect(t, "Cuts", got, err, cuts, api.OK)
		}
	}
	if costs < 20 {
		t.Errorf("all tasks together cost %d only", costs)
	}
}

// P5.5
func TestGreatTasks(t *testing.T) {
	numbers := source(7)
	for i := range 12 {
		expectUnwrapped(t, "a great task", numbers.task(12, 12, i%2, 1000, i%3*6))
		expectUnwrapped(t, "a long task", numbers.task(2, 64, i%2, 1, i%3*6))
		expectUnwrapped(t, "a high task", numbers.task(48, 3, i%2, 3, i%3*6))
	}
}

// P5.5
func TestCheckFlow(t *testing.T) {
	for _, x := range []struct {
		what string
		flow []int
		want int
		err  api.Errno
	}{
		{"the example", []int{-2, 2, 2, -2}, 2, api.OK},
		{"the other way round", []int{2, -2, -2, 2}, -2, api.OK},
		{"nothing flows", []int{0, 0, 0, 0}, 0, api.OK},
		{"too few", []int{-2, 2, 2}, 0, api.ErrShape},
		{"too many", []int{-2, 2, 2, -2, 0}, 0, api.ErrShape},
		{"more than a weight", []int{-3, 3, 3, -3}, 0, api.ErrRange},
		{"open", []int{-2, 2, 2, -1}, 0, api.ErrOpen},
	} {
		got, err := unwrap.CheckFlow(square(), x.flow)
		expect(t, x.what, got, err, x.want, x.err)
	}
	holed := task(row(0, void, 0), []int{1, 1}, nil)
	got, err := unwrap.CheckFlow(holed, nil)
	expect(t, "a net without edges", got, err, 0, api.OK)
	got, err = unwrap.CheckFlow(holed, []int{0, 0})
	expect(t, "a number for each weight", got, err, 0, api.ErrShape)
}

// P5.5
func TestCuts(t *testing.T) {
	for _, x := range []struct {
		what string
		t    api.UnwrapTask
		u    api.PhaseMap
		want [][2]int
	}{
		{"the example", square(), square().Map, [][2]int{{1, 3}}},
		{"a turn at the last pixel", square(), phases(2, 2, 0, 1500, -1500, 3000), [][2]int{{2, 3}}},
		{"all pairs", evenTask(phases(2, 2, 0, 0, 0, 0), 1), phases(2, 2, 4096, 0, 0, 4096), [][2]int{{0, 1}, {2, 3}, {0, 2}, {1, 3}}},
		{"a weight of 0", task(row(0, 0, 0), []int{1, 0}, nil), row(0, 0, 4096), [][2]int{{1, 2}}},
		{"beside a void pixel", task(row(0, void, 0), []int{1, 1}, nil), row(0, void, 4096), nil},
		{"no cuts", evenTask(row(0, 1500, -1096), 1), row(0, 1500, 3000), nil},
	} {
		got, err := unwrap.Cuts(x.t, x.u)
		expect(t, x.what, got, err, x.want, api.OK)
	}
}

// P5.5
func TestUndecided(t *testing.T) {
	all := [][2]int{{0, 1}, {2, 3}, {0, 2}, {1, 3}}
	m := square().Map
	for _, x := range []struct {
		what string
		t    api.UnwrapTask
		want [][2]int
	}{
		{"the example", square(), nil},
		{"equal weights", evenTask(m, 1), all},
		{"two least weights", task(m, []int{5, 2}, []int{3, 2}), [][2]int{{2, 3}, {1, 3}}},
		{"a weight of 0", task(m, []int{5, 2}, []int{3, 0}), nil},
		{"two weights of 0", task(m, []int{5, 0}, []int{3, 0}), [][2]int{{2, 3}, {1, 3}}},
		{"weights of 0 alone", evenTask(m, 0), all},
		{"no cost", evenTask(phases(2, 2, 0, 0, 0, 0), 1), nil},
		{"no cost, and parts", task(phases(2, 2, 0, 0, 0, 0), []int{1, 1}, []int{0, 0}), [][2]int{{0, 2}, {1, 3}}},
		{"a weight of 0 in an undecided part", task(phases(2, 3, 0, 1500, 1500, -1500, -1096, -1096), []int{1, 0, 1, 1}, []int{1, 1, 1}), [][2]int{{0, 1}, {1, 2}, {3, 4}, {0, 3}, {1, 4}}},
		{"a void pixel", task(row(0, void, 0), []int{0, 0}, nil), nil},
		{"one pixel", task(row(5), nil, nil), nil},
	} {
		before := copyOfTask(x.t)
		got, err := unwrap.Undecided(x.t)
		expect(t, x.what, got, err, x.want, api.OK)
		expect(t, "the task behind Undecided", x.t, api.OK, before, api.OK)
	}
	n, err := unwrap.NetOf(evenTask(m, 1))
	expectError(t, "NetOf", err, api.OK)
	r, err := unwrap.NetBetween(n, 0, 3)
	expect(t, "NetBetween of equal weights", r, err, span(0, 1), api.OK)
}
