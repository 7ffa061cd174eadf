package unwrap

import "swath/api"

// SolveNet gives best turns, a right flow whose value is their cost, and the cost.
func SolveNet(n api.UnwrapNet) ([]int, []int, int, api.Errno) {
	if err := checkNet(n); err != api.OK {
		return nil, nil, 0, err
	}
	turns, flow := best(n)
	return turns, flow, costOf(n, turns), api.OK
}

// best gives best turns that are 0 at the least node of each part, and a right flow that proves it.
func best(n api.UnwrapNet) ([]int, []int) {
	s := solved(n)
	turns := make([]int, n.Nodes)
	for node, least := range leastOfParts(n) {
		turns[node] = s.turns[node] - s.turns[least]
	}
	return turns, s.flow
}

// NetBetween gives by how much the turns of one node are more than those of another one, among all best turns.
func NetBetween(n api.UnwrapNet, from, to int) (api.Range, api.Errno) {
	if err := checkNet(n); err != api.OK {
		return api.Range{}, err
	}
	if !within(from, 0, n.Nodes-1) || !within(to, 0, n.Nodes-1) {
		return api.Range{}, api.ErrMissing
	}
	if least := leastOfParts(n); least[from] != least[to] {
		return api.Range{}, api.ErrOpen
	}
	s := solved(n)
	more := s.turns[to] - s.turns[from]
	return api.Range{Lo: more - s.distances(to)[from], Hi: more + s.distances(from)[to]}, api.OK
}

// NetClasses gives the number of the class of each node.
func NetClasses(n api.UnwrapNet) ([]int, api.Errno) {
	if err := checkNet(n); err != api.OK {
		return nil, err
	}
	return numbered(leastOfClasses(n)), api.OK
}

// leastOfClasses gives for each node the least node of its class: tight arcs lead from the one to the other, and back.
func leastOfClasses(n api.UnwrapNet) []int {
	s := solved(n)
	marked := make([][]bool, n.Nodes)
	for node := range marked {
		marked[node] = make([]bool, n.Nodes)
		s.mark(node, marked[node])
	}
	least := make([]int, n.Nodes)
	for node := range least {
		for !marked[node][least[node]] || !marked[least[node]][node] {
			least[node]++
		}
	}
	return least
}
