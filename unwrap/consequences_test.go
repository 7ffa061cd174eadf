package unwrap_test

import (
	"slices"
	"testing"

	"swath/api"
	"swath/unwrap"
)

// flowAround gives a right flow: it goes along any closed walks as far as the weights let it.
func (s *source) flowAround(n api.UnwrapNet) []int {
	flow := make([]int, len(n.Edges))
	for range 20 {
		var steps [][2]int
		begin := s.below(n.Nodes)
		for node := begin; len(steps) < 60; {
			at := s.below(len(n.Edges))
			e, sign := n.Edges[at], 1
			if e.To == node {
				e.From, e.To, sign = e.To, e.From, -1
			}
			if e.From != node {
				continue
			}
			steps = append(steps, [2]int{at, sign})
			if node = e.To; node == begin {
				break
			}
		}
		changed := slices.Clone(flow)
		for _, step := range steps {
			changed[step[0]] += step[1]
		}
		if _, err := unwrap.CheckFlowOf(n, changed); err == api.OK {
			flow = changed
		}
	}
	return flow
}

// P5.9
func TestLeastCost(t *testing.T) {
	numbers := source(9)
	above := 0
	for range 60 {
		n := numbers.net(numbers.from(2, 6), numbers.from(6, 20), 3, 5, true)
		for i := range n.Nodes {
			n.Edges = append(n.Edges, edge(i, (i+1)%n.Nodes, 1, 2))
		}
		_, _, least, err := unwrap.SolveNet(n)
		expectError(t, "SolveNet", err, api.OK)
		value, err := unwrap.CheckFlowOf(n, numbers.flowAround(n))
		expectError(t, "CheckFlowOf", err, api.OK)
		turns := numbers.numbers(n.Nodes, -4, 4)
		cost, err := unwrap.CheckTurns(n, turns)
		expectError(t, "CheckTurns", err, api.OK)
		if value > least || least > cost {
			t.Errorf("%v: a flow of %d, turns that cost %d, and the least cost %d", n, value, cost, least)
		}
		if value > 0 {
			above++
		}
		parts, err := unwrap.Parts(n)
		expectError(t, "Parts", err, api.OK)
		more := numbers.numbers(n.Nodes, -9, 9)
		for node := range turns {
			turns[node] += more[parts[node]]
		}
		got, err := unwrap.CheckTurns(n, turns)
		expect(t, "the cost of more turns in each part", got, err, cost, api.OK)
	}
	if above < 10 {
		t.Errorf("only %d flows are above 0", above)
	}
}

// P5.10
func TestBetweenOfClasses(t *testing.T) {
	numbers := source(10)
	wide := 0
	for i := range 10 {
		n := numbers.net(20, 45, 3, 3, i%2 == 0)
		turns, _, _, err := unwrap.SolveNet(n)
		expectError(t, "SolveNet", err, api.OK)
		parts, err := unwrap.Parts(n)
		expectError(t, "Parts", err, api.OK)
		classes, err := unwrap.NetClasses(n)
		expectError(t, "NetClasses", err, api.OK)
		for from := range n.Nodes {
			for to := range n.Nodes {
				r, err := unwrap.NetBetween(n, from, to)
				if parts[from] != parts[to] {
					expectError(t, "NetBetween parts", err, api.ErrOpen)
					continue
				}
				back, backErr := unwrap.NetBetween(n, to, from)
				expect(t, "NetBetween turned over", back, backErr, span(-r.Hi, -r.Lo), err)
				if more := turns[to] - turns[from]; more < r.Lo || more > r.Hi {
					t.Errorf("%d more turns than %v", more, r)
				}
				expect(t, "one class", classes[from] == classes[to], err, r.Lo == r.Hi, api.OK)
				wide += r.Hi - r.Lo
			}
		}
	}
	if wide == 0 {
		t.Error("each range is one number")
	}
}

// P5.11
func TestWholeTurns(t *testing.T) {
	numbers := source(11)
	for range 30 {
		x := numbers.task(8, 9, 0, 20, numbers.below(2)*7)
		u, _ := expectUnwrapped(t, "a task", x)
		for i, phase := range u.Phases {
			if (phase == void) != (x.Map.Phases[i] == void) || phase != void && wrapped(phase) != x.Map.Phases[i] {
				t.Errorf("the pixel %d has %d, and %d wrapped", i, phase, x.Map.Phases[i])
			}
		}
	}
}

// smooth gives a field whose neighbours differ by less than half a turn, but by more than a turn over the whole field.
func (s *source) smooth(rows, columns int) api.PhaseMap {
	m := phases(rows, columns)
	perRow, perColumn := s.from(-1500, 1500), s.from(-1500, 1500)
	for i := range rows * columns {
		m.Phases = append(m.Phases, i/columns*perRow+i%columns*perColumn+s.from(-250, 250))
	}
	return m
}

func wrappedMap(m api.PhaseMap) api.PhaseMap {
	m = copyOfMap(m)
	for i, phase := range m.Phases {
		if phase != void {
			m.Phases[i] = wrapped(phase)
		}
	}
	return m
}

// P5.11
func TestFieldsOfNoCost(t *testing.T) {
	numbers := source(12)
	for range 30 {
		m := numbers.smooth(10, 12)
		x := evenTask(wrappedMap(m), numbers.from(1, 9))
		u, cost := expectUnwrapped(t, "a smooth field", x)
		expect(t, "the cost of a smooth field", cost, api.OK, 0, api.OK)
		for i, phase := range m.Phases {
			expect(t, "a phase", u.Phases[i]-u.Phases[0], api.OK, phase-m.Phases[0], api.OK)
		}
		cuts, err := unwrap.Cuts(x, u)
		expect(t, "Cuts", cuts, err, nil, api.OK)
		path := []int{numbers.below(120)}
		for len(path) < 150 {
			before := path[len(path)-1]
			by := []int{1, -1, 12, -12}[numbers.below(4)]
			if after := before + by; after >= 0 && after < 120 && (by%12 == 0 || after/12 == before/12) {
				path = append(path, after)
			}
		}
		along, err := unwrap.Along(x.Map, path)
		expectError(t, "Along", err, api.OK)
		more := along[0] - u.Phases[path[0]]
		expect(t, "whole turns", more%4096, api.OK, 0, api.OK)
		for i, phase := range along {
			expect(t, "a phase along a path", phase, api.OK, u.Phases[path[i]]+more, api.OK)
		}
	}
}

// P5.11
func TestCutsOfNoCost(t *testing.T) {
	numbers := source(13)
	cut := 0
	for range 60 {
		x := numbers.task(3, 4, 0, 1, 0)
		u, cost := expectUnwrapped(t, "a task", x)
		if cost != 0 {
			continue
		}
		cuts, err := unwrap.Cuts(x, u)
		expectError(t, "Cuts", err, api.OK)
		for _, e := range netOf(x).Edges {
			if slices.Contains(cuts, [2]int{e.From, e.To}) {
				expect(t, "the weight of a cut", e.Weight, api.OK, 0, api.OK)
				cut++
			}
		}
	}
	if cut == 0 {
		t.Error("nothing was cut")
	}
}

// columnsOf gives some columns of a map.
func columnsOf(m api.PhaseMap, from, to int) api.PhaseMap {
	part := phases(m.Rows, to-from)
	for i, phase := range m.Phases {
		if column := i % m.Columns; column >= from && column < to {
			part.Phases = append(part.Phases, phase)
		}
	}
	return part
}

// P5.12
func TestPartsOfOneFieldAreJoined(t *testing.T) {
	numbers := source(14)
	for i := range 40 {
		m := phases(numbers.from(1, 20), numbers.from(2, 64))
		m.Phases = numbers.numbers(m.Rows*m.Columns, -60000, 60000)
		overlap := numbers.from(1, m.Columns-1)
		begin := numbers.below(m.Columns - overlap + 1)
		for pixel := range m.Phases {
			if i%2 == 0 && pixel > begin && numbers.below(4) == 0 {
				m.Phases[pixel] = void
			}
		}
		shift, more := numbers.from(-1000, 1000), numbers.from(-1000, 1000)
		a, err := unwrap.Shifted(columnsOf(m, 0, begin+overlap), shift)
		expectError(t, "Shifted", err, api.OK)
		b, err := unwrap.Shifted(columnsOf(m, begin, m.Columns), more)
		expectError(t, "Shifted", err, api.OK)
		want, err := unwrap.Shifted(m, shift)
		expectError(t, "Shifted", err, api.OK)
		got, disagree, err := unwrap.Joined(a, b, overlap)
		expect(t, "Joined", got, err, want, api.OK)
		expect(t, "the disagreement", disagree, err, 0, api.OK)
	}
}
