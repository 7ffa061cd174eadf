package unwrap_test

import (
	"math"
	"slices"
	"testing"

	"swath/api"
	"swath/unwrap"
)

// P5.1
func TestCheckNet(t *testing.T) {
	for _, n := range []api.UnwrapNet{
		net(0),
		net(200),
		triangle(5, 3, 2),
		net(2, edge(0, 1, 1000, 1000), edge(1, 0, -1000, 0), edge(0, 1, 0, 1)),
		net(200, slices.Repeat([]api.UnwrapEdge{edge(199, 0, 1, 1)}, 600)...),
	} {
		at, err := unwrap.CheckNet(n)
		expect(t, "a net", at, err, 0, api.OK)
	}
	for _, x := range netFaults() {
		at, err := unwrap.CheckNet(x.n)
		expect(t, x.what, at, err, x.at, x.err)
	}
}

// The errors of a net are those of all functions that take one, ahead of their own.
func TestErrorsOfNets(t *testing.T) {
	for _, x := range netFaults() {
		parts, err := unwrap.Parts(x.n)
		expect(t, "Parts: "+x.what, parts, err, nil, x.err)
		n, err := unwrap.CheckTurns(x.n, nil)
		expect(t, "CheckTurns: "+x.what, n, err, 0, x.err)
		n, err = unwrap.CheckFlowOf(x.n, []int{5000})
		expect(t, "CheckFlowOf: "+x.what, n, err, 0, x.err)
		turns, flow, n, err := unwrap.SolveNet(x.n)
		expect(t, "SolveNet: "+x.what, turns, err, nil, x.err)
		expect(t, "the flow of SolveNet: "+x.what, flow, err, nil, x.err)
		expect(t, "the cost of SolveNet: "+x.what, n, err, 0, x.err)
		r, err := unwrap.NetBetween(x.n, -1, 500)
		expect(t, "NetBetween: "+x.what, r, err, api.Range{}, x.err)
		classes, err := unwrap.NetClasses(x.n)
		expect(t, "NetClasses: "+x.what, classes, err, nil, x.err)
	}
}

// P5.1
func TestParts(t *testing.T) {
	for _, x := range []struct {
		what string
		n    api.UnwrapNet
		want []int
	}{
		{"nothing", net(0), nil},
		{"no edges", net(4), []int{0, 1, 2, 3}},
		{"the example", triangle(5, 3, 2), []int{0, 0, 0}},
		{"a weight of 0", net(3, edge(0, 1, 0, 0), edge(1, 2, 0, 1)), []int{0, 1, 1}},
		{"weights of 0 alone", triangle(0, 0, 0), []int{0, 1, 2}},
		{"against the directions", net(4, edge(3, 1, 0, 1), edge(3, 0, 0, 1)), []int{0, 0, 1, 0}},
		{"parts within one another", net(5, edge(4, 0, 0, 1), edge(3, 1, 0, 1)), []int{0, 1, 2, 1, 0}},
		{"a way from the last edge on", net(4, edge(2, 3, 0, 1), edge(1, 2, 0, 1), edge(0, 1, 0, 1)), []int{0, 0, 0, 0}},
		{"a weight of 0 beside another edge", net(2, edge(0, 1, 0, 0), edge(1, 0, 3, 1)), []int{0, 0}},
	} {
		before := copyOfNet(x.n)
		got, err := unwrap.Parts(x.n)
		expect(t, x.what, got, err, x.want, api.OK)
		expect(t, "the net behind Parts", x.n, api.OK, before, api.OK)
	}
}

// P5.1
func TestPartsByDefinition(t *testing.T) {
	numbers := source(1)
	for range 60 {
		n := numbers.net(numbers.from(2, 30), numbers.from(0, 30), 5, 5, true)
		want := numbered(n.Nodes, func(a, b int) bool { return joins(n, a, b) })
		got, err := unwrap.Parts(n)
		expect(t, "Parts", got, err, want, api.OK)
	}
	chain := net(200)
	for i := range 199 {
		chain.Edges = append(chain.Edges, edge(199-i, 198-i, 0, 1))
	}
	got, err := unwrap.Parts(chain)
	expect(t, "a chain", got, err, make([]int, 200), api.OK)
}

// P5.2
func TestCheckTurns(t *testing.T) {
	for _, x := range []struct {
		what  string
		n     api.UnwrapNet
		turns []int
		want  int
		err   api.Errno
	}{
		{"best turns", triangle(5, 3, 2), []int{0, -1, -1}, 2, api.OK},
		{"others", triangle(5, 3, 2), []int{0, 0, 0}, 5, api.OK},
		{"others with two excesses", triangle(5, 3, 2), []int{0, 1, 0}, 13, api.OK},
		{"all more", triangle(5, 3, 2), []int{7, 6, 6}, 2, api.OK},
		{"a weight of 0", triangle(0, 3, 2), []int{0, 90, 90}, 180, api.OK},
		{"nothing", net(0), nil, 0, api.OK},
		{"no edges", net(2), []int{1000000, -1000000}, 0, api.OK},
		{"the greatest cost of an edge", net(2, edge(0, 1, 1000, 1000)), []int{-1000000, 1000000}, 2001000000, api.OK},
		{"too few", triangle(5, 3, 2), []int{0, 2000000}, 0, api.ErrShape},
		{"too many", triangle(5, 3, 2), []int{0, 0, 0, 0}, 0, api.ErrShape},
		{"none", triangle(5, 3, 2), nil, 0, api.ErrShape},
		{"some of nothing", net(0), []int{0}, 0, api.ErrShape},
		{"10^6 and 1", triangle(5, 3, 2), []int{0, 0, 1000001}, 0, api.ErrRange},
		{"less than -10^6", triangle(5, 3, 2), []int{-1000001, 0, 0}, 0, api.ErrRange},
		{"the least number of all", net(1), []int{math.MinInt}, 0, api.ErrRange},
		{"the greatest number of all", net(1), []int{math.MaxInt}, 0, api.ErrRange},
	} {
		got, err := unwrap.CheckTurns(x.n, x.turns)
		expect(t, x.what, got, err, x.want, x.err)
	}
}

// P5.2
func TestCheckFlowOf(t *testing.T) {
	for _, x := range []struct {
		what string
		n    api.UnwrapNet
		flow []int
		want int
		err  api.Errno
	}{
		{"the example", triangle(5, 3, 2), []int{2, 2, 2}, 2, api.OK},
		{"less", triangle(5, 3, 2), []int{1, 1, 1}, 1, api.OK},
		{"nothing flows", triangle(5, 3, 2), []int{0, 0, 0}, 0, api.OK},
		{"the other way round", triangle(5, 3, 2), []int{-2, -2, -2}, -2, api.OK},
		{"no edges", net(3), nil, 0, api.OK},
		{"nothing", net(0), nil, 0, api.OK},
		{"two edges", net(2, edge(0, 1, 7, 5), edge(0, 1, 3, 9)), []int{5, -5}, 20, api.OK},
		{"there and back", net(2, edge(0, 1, 7, 5), edge(1, 0, -3, 9)), []int{4, 4}, 16, api.OK},
		{"a weight of 0", net(2, edge(0, 1, 7, 0), edge(1, 0, -3, 9)), []int{0, 0}, 0, api.OK},
		{"too few", triangle(5, 3, 2), []int{9, 9}, 0, api.ErrShape},
		{"too many", triangle(5, 3, 2), []int{2, 2, 2, 0}, 0, api.ErrShape},
		{"none", triangle(5, 3, 2), nil, 0, api.ErrShape},
		{"more than a weight", triangle(5, 3, 2), []int{3, 3, 3}, 0, api.ErrRange},
		{"less than a weight the other way round", triangle(5, 3, 2), []int{-3, -3, -3}, 0, api.ErrRange},
		{"more than a weight of 0", triangle(5, 0, 2), []int{0, 1, 0}, 0, api.ErrRange},
		{"open, and more than a weight", triangle(5, 3, 2), []int{1, 0, 3}, 0, api.ErrRange},
		{"the least number of all", triangle(5, 3, 2), []int{0, math.MinInt, 0}, 0, api.ErrRange},
		{"the greatest number of all", triangle(5, 3, 2), []int{0, 0, math.MaxInt}, 0, api.ErrRange},
		{"open", triangle(5, 3, 2), []int{2, 2, 1}, 0, api.ErrOpen},
		{"open at two nodes", triangle(5, 3, 2), []int{0, 1, 0}, 0, api.ErrOpen},
		{"open at the last nodes", net(4, edge(2, 3, 0, 1)), []int{1}, 0, api.ErrOpen},
		{"against the direction", net(2, edge(0, 1, 7, 5), edge(1, 0, -3, 9)), []int{4, -4}, 0, api.ErrOpen},
	} {
		got, err := unwrap.CheckFlowOf(x.n, x.flow)
		expect(t, x.what, got, err, x.want, x.err)
	}
}
