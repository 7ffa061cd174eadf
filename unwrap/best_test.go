package unwrap_test

import (
	"slices"
	"testing"

	"swath/api"
	"swath/unwrap"
)

// expectSolved looks whether the turns and the flow of SolveNet prove each other, and gives the cost.
func expectSolved(t *testing.T, what string, n api.UnwrapNet) int {
	t.Helper()
	before := copyOfNet(n)
	turns, flow, cost, err := unwrap.SolveNet(n)
	expectError(t, what, err, api.OK)
	expect(t, what+": the net behind SolveNet", n, api.OK, before, api.OK)
	got, err := unwrap.CheckTurns(n, turns)
	expect(t, what+": the cost of the turns", got, err, cost, api.OK)
	got, err = unwrap.CheckFlowOf(n, flow)
	expect(t, what+": the value of the flow", got, err, cost, api.OK)
	parts, err := unwrap.Parts(n)
	expectError(t, what, err, api.OK)
	for node, turn := range turns {
		if slices.Index(parts, parts[node]) == node && turn != 0 {
			t.Errorf("%s: the turns of the node %d, the least one of its part, are %d", what, node, turn)
		}
	}
	return cost
}

// P5.3
func TestSolveNet(t *testing.T) {
	for _, x := range []struct {
		what string
		n    api.UnwrapNet
		want int
	}{
		{"nothing", net(0), 0},
		{"no edges", net(5), 0},
		{"the example", triangle(5, 3, 2), 2},
		{"the other weights of the example", triangle(5, 2, 2), 2},
		{"a weight of 0", triangle(5, 0, 2), 0},
		{"one edge", net(2, edge(0, 1, 1000, 1000)), 0},
		{"one edge back", net(2, edge(1, 0, -1000, 7)), 0},
		{"two edges that agree", net(2, edge(0, 1, 5, 3), edge(1, 0, -5, 4)), 0},
		{"two edges that do not", net(2, edge(0, 1, 5, 3), edge(0, 1, -2, 4)), 21},
		{"three edges", net(2, edge(0, 1, 5, 3), edge(0, 1, 1, 3), edge(1, 0, 4, 3)), 27},
		{"an edge with a weight of 0 alone", net(2, edge(0, 1, 1000, 0)), 0},
		{"two parts", net(6, edge(0, 2, 1, 5), edge(2, 4, 0, 3), edge(4, 0, 0, 2), edge(1, 3, 0, 4), edge(3, 5, -2, 1), edge(5, 1, 0, 3)), 4},
		{"the greatest cost", net(2, slices.Concat(slices.Repeat([]api.UnwrapEdge{edge(0, 1, 1000, 1000)}, 300), slices.Repeat([]api.UnwrapEdge{edge(1, 0, 1000, 1000)}, 300))...), 600000000},
	} {
		expect(t, x.what, expectSolved(t, x.what, x.n), api.OK, x.want, api.OK)
	}
	turns, flow, _, err := unwrap.SolveNet(triangle(5, 3, 2))
	expect(t, "the turns of the example", turns, err, []int{0, -1, -1}, api.OK)
	expect(t, "the flow of the example", flow, err, []int{2, 2, 2}, api.OK)
}

// P5.3, P5.10
func TestBestByDefinition(t *testing.T) {
	numbers := source(2)
	several, parts := 0, 0
	for i := range 400 {
		nodes := numbers.from(2, 4)
		n := numbers.net(nodes, numbers.from(0, 8), numbers.from(0, 2), numbers.from(1, 4), i%2 == 0)
		best, least := allBest(n)
		expect(t, "the cost", expectSolved(t, "a net", n), api.OK, least, api.OK)
		turns, _, _, err := unwrap.SolveNet(n)
		expectError(t, "SolveNet", err, api.OK)
		if !slices.ContainsFunc(best, func(b []int) bool { return slices.Equal(b, turns) }) {
			t.Errorf("%v: %v is not among %v", n, turns, best)
		}
		for from := range nodes {
			for to := range nodes {
				got, err := unwrap.NetBetween(n, from, to)
				if joins(n, from, to) {
					expect(t, "NetBetween", got, err, between(best, from, to), api.OK)
				} else {
					expect(t, "NetBetween parts", got, err, api.Range{}, api.ErrOpen)
					parts++
				}
			}
		}
		want := numbered(nodes, func(a, b int) bool {
			r := between(best, a, b)
			return joins(n, a, b) && r.Lo == r.Hi
		})
		got, err := unwrap.NetClasses(n)
		expect(t, "NetClasses", got, err, want, api.OK)
		if len(best) > 1 {
			several++
		}
	}
	if several < 50 || parts < 50 {
		t.Errorf("%d nets with several best turns, %d pairs of parts", several, parts)
	}
}

// greatNets are nets of the greatest sizes: of any edges, of a chain whose edges lie over each other, and with two ways from the first node to the last one.
func greatNets() []api.UnwrapNet {
	numbers := source(3)
	nets := []api.UnwrapNet{
		numbers.net(200, 600, 1000, 1000, false),
		numbers.net(200, 600, 1000, 1000, true),
		numbers.net(200, 600, 1, 1, false),
		numbers.net(200, 600, 1000, 1, false),
		numbers.net(200, 600, 1, 1000, false),
		numbers.net(20, 600, 1000, 1000, false),
		numbers.net(200, 200, 1000, 1000, false),
	}
	chain, ring := net(200), net(200)
	for i := range 600 {
		chain.Edges = append(chain.Edges, edge(i%199, i%199+1, numbers.from(-1000, 1000), numbers.from(1, 1000)))
		ring.Edges = append(ring.Edges, edge(i%200, (i+1)%200, 1000, 1000-i/200))
	}
	return append(nets, chain, ring)
}

// P5.3, P5.9
func TestGreatNets(t *testing.T) {
	for _, n := range greatNets() {
		expectSolved(t, "a great net", n)
	}
	ring := greatNets()[8]
	expect(t, "the cost of a ring", expectSolved(t, "a ring", ring), api.OK, 200000*(1000+999+998), api.OK)
}

// costWith gives the cost of best turns with one more edge, that costs 1 for each turn by which two nodes differ from so much.
func costWith(t *testing.T, n api.UnwrapNet, from, to, more int) int {
	t.Helper()
	n.Edges = append(slices.Clone(n.Edges), edge(from, to, -more, 1))
	_, _, cost, err := unwrap.SolveNet(n)
	expectError(t, "SolveNet with one more edge", err, api.OK)
	return cost
}

// P5.3, P5.10: one more edge costs nothing just if the nodes differ by as much in some best turns.
func TestNetBetweenByOneMoreEdge(t *testing.T) {
	numbers := source(4)
	wide := 0
	for range 40 {
		n := numbers.net(30, 70, 10, 4, false)
		_, _, cost, err := unwrap.SolveNet(n)
		expectError(t, "SolveNet", err, api.OK)
		from, to := numbers.below(30), numbers.below(30)
		if from == to || !joins(n, from, to) {
			continue
		}
		r, err := unwrap.NetBetween(n, from, to)
		expectError(t, "NetBetween", err, api.OK)
		for _, x := range []struct {
			more int
			free bool
		}{{r.Lo - 1, false}, {r.Lo, true}, {r.Hi, true}, {r.Hi + 1, false}} {
			if free := costWith(t, n, from, to, x.more) == cost; free != x.free {
				t.Errorf("%v between %d and %d of %v: %d is free: %t", r, from, to, n, x.more, free)
			}
		}
		if r.Lo < r.Hi {
			wide++
		}
	}
	if wide < 5 {
		t.Errorf("only %d ranges have more than one number", wide)
	}
}

// P5.3
func TestNetBetween(t *testing.T) {
	for _, x := range []struct {
		what     string
		n        api.UnwrapNet
		from, to int
		want     api.Range
		err      api.Errno
	}{
		{"the example", triangle(5, 3, 2), 0, 1, span(-1, -1), api.OK},
		{"the example turned over", triangle(5, 3, 2), 1, 0, span(1, 1), api.OK},
		{"two best turns", triangle(5, 2, 2), 0, 2, span(-1, 0), api.OK},
		{"two best turns turned over", triangle(5, 2, 2), 2, 0, span(0, 1), api.OK},
		{"two best turns at other nodes", triangle(5, 2, 2), 0, 1, span(-1, -1), api.OK},
		{"a node itself", triangle(5, 2, 2), 2, 2, span(0, 0), api.OK},
		{"a node alone", net(1), 0, 0, span(0, 0), api.OK},
		{"two edges of the same weight", net(2, edge(0, 1, 1000, 7), edge(0, 1, -1000, 7)), 0, 1, span(-1000, 1000), api.OK},
		{"a weight of 0", triangle(5, 2, 0), 0, 2, span(-1, -1), api.OK},
		{"parts", net(3, edge(0, 1, 0, 1)), 0, 2, api.Range{}, api.ErrOpen},
		{"parts with an edge between them", net(2, edge(0, 1, 0, 0)), 0, 1, api.Range{}, api.ErrOpen},
		{"no node from", triangle(5, 2, 2), 3, 0, api.Range{}, api.ErrMissing},
		{"from below 0", triangle(5, 2, 2), -1, 0, api.Range{}, api.ErrMissing},
		{"no node to", triangle(5, 2, 2), 0, 3, api.Range{}, api.ErrMissing},
		{"to below 0", triangle(5, 2, 2), 0, -1, api.Range{}, api.ErrMissing},
		{"the same node, which is missing", triangle(5, 2, 2), 3, 3, api.Range{}, api.ErrMissing},
		{"no nodes", net(0), 0, 0, api.Range{}, api.ErrMissing},
	} {
		got, err := unwrap.NetBetween(x.n, x.from, x.to)
		expect(t, x.what, got, err, x.want, x.err)
	}
	chain, turns := net(200), 0
	for i := range 199 {
		chain.Edges = append(chain.Edges, edge(i, i+1, -1000, 1))
		turns += 1000
	}
	got, err := unwrap.NetBetween(chain, 0, 199)
	expect(t, "a chain", got, err, span(turns, turns), api.OK)
}

// P5.3
func TestNetClasses(t *testing.T) {
	for _, x := range []struct {
		what string
		n    api.UnwrapNet
		want []int
	}{
		{"nothing", net(0), nil},
		{"no edges", net(3), []int{0, 1, 2}},
		{"the example", triangle(5, 3, 2), []int{0, 0, 0}},
		{"two best turns", triangle(5, 2, 2), []int{0, 0, 1}},
		{"three best turns", triangle(2, 2, 2), []int{0, 1, 2}},
		{"a weight of 0", triangle(5, 2, 0), []int{0, 0, 0}},
		{"parts", net(4, edge(0, 2, 5, 1), edge(1, 3, 5, 1)), []int{0, 1, 0, 1}},
		{"an edge between parts", net(2, edge(0, 1, 5, 0)), []int{0, 1}},
		{"classes within one another", net(4, edge(0, 3, 0, 9), edge(1, 2, 0, 9), edge(0, 1, 0, 1), edge(3, 2, 1, 1)), []int{0, 1, 1, 0}},
	} {
		before := copyOfNet(x.n)
		got, err := unwrap.NetClasses(x.n)
		expect(t, x.what, got, err, x.want, api.OK)
		expect(t, "the net behind NetClasses", x.n, api.OK, before, api.OK)
	}
}

// The same net gives the same results again, in memory of their own.
func TestBestAgain(t *testing.T) {
	n := greatNets()[1]
	turns, flow, cost, err := unwrap.SolveNet(n)
	expectError(t, "SolveNet", err, api.OK)
	again, flowAgain, costAgain, err := unwrap.SolveNet(n)
	expect(t, "the turns", again, err, turns, api.OK)
	expect(t, "the flow", flowAgain, err, flow, api.OK)
	expect(t, "the cost", costAgain, err, cost, api.OK)
	again[0], flowAgain[0] = turns[0]+1, flow[0]+1
	third, thirdFlow, _, err := unwrap.SolveNet(n)
	expect(t, "the turns behind a change", third, err, turns, api.OK)
	expect(t, "the flow behind a change", thirdFlow, err, flow, api.OK)
}
