package unwrap

import "swath/api"

// unreached is the distance of a node to which no arcs lead.
const unreached = -1

// solver is a net with turns and a flow that suit each other: an edge with an excess above 0 has its weight as its flow, one with an excess below 0 the opposite number. So both are best as soon as no node has a surplus of flow.
type solver struct {
	api.UnwrapNet
	turns, flow, surplus []int
	arcs                 [][]arc // by the node at which they begin
}

// arc is an edge that is followed from From to To (sign 1), or back (sign -1).
type arc struct{ edge, to, sign int }

// solved gives a solver without surplus.
func solved(n api.UnwrapNet) *solver {
	s := startedOn(n)
	// Each round sends some flow: as an edge with a weight has room in one of its directions at least, what has a surplus leads to something that lacks flow.
	for s.turn() {
		for s.send() {
		}
	}
	return s
}

// startedOn gives a solver with all turns 0.
func startedOn(n api.UnwrapNet) *solver {
	s := &solver{UnwrapNet: n, turns: make([]int, n.Nodes), arcs: make([][]arc, n.Nodes)}
	for i, e := range n.Edges {
		s.flow = append(s.flow, signOf(e.Jump)*e.Weight)
		s.arcs[e.From] = append(s.arcs[e.From], arc{i, e.To, 1})
		s.arcs[e.To] = append(s.arcs[e.To], arc{i, e.From, -1})
	}
	s.surplus = surplusOf(n, s.flow)
	return s
}

func signOf(n int) int {
	switch {
	case n > 0:
		return 1
	case n < 0:
		return -1
	}
	return 0
}

// room tells how much more flow an arc takes.
func (s *solver) room(a arc) int {
	return s.Edges[a.edge].Weight - a.sign*s.flow[a.edge]
}

// length tells by how much more the turns at the end of an arc with room may become than those at its beginning; as turns and flow suit each other, it is not below 0.
func (s *solver) length(a arc) int {
	return -a.sign * excessOf(s.Edges[a.edge], s.turns)
}

// isTight tells whether flow may be sent along an arc.
func (s *solver) isTight(a arc) bool {
	return s.room(a) > 0 && s.length(a) == 0
}

// turn adds to the turns the distances from the nodes with a surplus, such that tight arcs lead to all nodes of their parts. It tells whether there are some.
func (s *solver) turn() bool {
	var starts []int
	for node, surplus := range s.surplus {
		if surplus > 0 {
			starts = append(starts, node)
		}
	}
	for node, distance := range s.distances(starts...) {
		if distance != unreached {
			s.turns[node] += distance
		}
	}
	return len(starts) > 0
}

// distances gives the lengths of the shortest ways along arcs with room from any of some nodes to each node.
func (s *solver) distances(starts ...int) []int {
	far := make([]int, s.Nodes)
	for node := range far {
		far[node] = unreached
	}
	for _, node := range starts {
		far[node] = 0
	}
	done := make([]bool, s.Nodes)
	for node, ok := nearest(far, done); ok; node, ok = nearest(far, done) {
		done[node] = true
		for _, a := range s.arcs[node] {
			if s.room(a) == 0 {
				continue
			}
			way := far[node] + s.length(a)
			if far[a.to] == unreached || way < far[a.to] {
				far[a.to] = way
			}
		}
	}
	return far
}

// nearest gives the nearest node that is reached, but not done.
func nearest(far []int, done []bool) (int, bool) {
	best, found := 0, false
	for node, distance := range far {
		if !done[node] && distance != unreached && (!found || distance < far[best]) {
			best, found = node, true
		}
	}
	return best, found
}

// send sends flow along tight arcs from nodes with a surplus to those that lack flow, and tells whether it has sent some.
func (s *solver) send() bool {
	seen := make([]bool, s.Nodes)
	some := false
	for node := range s.Nodes {
		if s.surplus[node] > 0 && !seen[node] {
			sent := s.sendFrom(node, s.surplus[node], seen)
			s.surplus[node] -= sent
			some = some || sent > 0
		}
	}
	return some
}

// sendFrom sends at most so much flow to one node that lacks it, and tells how much.
func (s *solver) sendFrom(node, most int, seen []bool) int {
	seen[node] = true
	if s.surplus[node] < 0 {
		sent := min(most, -s.surplus[node])
		s.surplus[node] += sent
		return sent
	}
	for _, a := range s.arcs[node] {
		if seen[a.to] || !s.isTight(a) {
			continue
		}
		if sent := s.sendFrom(a.to, min(most, s.room(a)), seen); sent > 0 {
			s.flow[a.edge] += a.sign * sent
			return sent
		}
	}
	return 0
}

// mark marks the nodes to which tight arcs lead.
func (s *solver) mark(node int, seen []bool) {
	seen[node] = true
	for _, a := range s.arcs[node] {
		if !seen[a.to] && s.isTight(a) {
			s.mark(a.to, seen)
		}
	}
}
