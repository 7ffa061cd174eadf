package unwrap

import "swath/api"

// Parts gives the number of the part of each node.
func Parts(n api.UnwrapNet) ([]int, api.Errno) {
	if err := checkNet(n); err != api.OK {
		return nil, err
	}
	return numbered(leastOfParts(n)), api.OK
}

// leastOfParts gives for each node the least node of its part.
func leastOfParts(n api.UnwrapNet) []int {
	least := make([]int, n.Nodes)
	for node := range least {
		least[node] = node
	}
	for changed := true; changed; {
		changed = false
		for _, e := range n.Edges {
			if e.Weight > 0 && least[e.From] != least[e.To] {
				less := min(least[e.From], least[e.To])
				least[e.From], least[e.To] = less, less
				changed = true
			}
		}
	}
	return least
}

// numbered gives for each node the number of its group, if least has for each node the least one of its group.
func numbered(least []int) []int {
	numbers := make([]int, len(least))
	count := 0
	for node, first := range least {
		if first == node {
			numbers[node] = count
			count++
		} else {
			numbers[node] = numbers[first]
		}
	}
	return numbers
}

// CheckTurns gives the cost of turns.
func CheckTurns(n api.UnwrapNet, turns []int) (int, api.Errno) {
	err := firstError(checkNet(n), errorIf(len(turns) != n.Nodes, api.ErrShape), checkAll(turns, checkTurn))
	if err != api.OK {
		return 0, err
	}
	return costOf(n, turns), api.OK
}

func checkTurn(turn int) api.Errno {
	return errorIf(!withinSize(turn, api.MaxNetTurns), api.ErrRange)
}

func costOf(n api.UnwrapNet, turns []int) int {
	cost := 0
	for _, e := range n.Edges {
		excess := excessOf(e, turns)
		cost += e.Weight * max(excess, -excess)
	}
	return cost
}

func excessOf(e api.UnwrapEdge, turns []int) int {
	return turns[e.To] - turns[e.From] + e.Jump
}

// CheckFlowOf gives the value of a right flow.
func CheckFlowOf(n api.UnwrapNet, flow []int) (int, api.Errno) {
	err := firstError(checkNet(n), errorIf(len(flow) != len(n.Edges), api.ErrShape))
	if err != api.OK {
		return 0, err
	}
	for i, e := range n.Edges {
		if !withinSize(flow[i], e.Weight) {
			return 0, api.ErrRange
		}
	}
	for _, surplus := range surplusOf(n, flow) {
		if surplus != 0 {
			return 0, api.ErrOpen
		}
	}
	value := 0
	for i, e := range n.Edges {
		value += flow[i] * e.Jump
	}
	return value, api.OK
}

// surplusOf gives for each node by how much more flow ends there than begins there.
func surplusOf(n api.UnwrapNet, flow []int) []int {
	surplus := make([]int, n.Nodes)
	for i, e := range n.Edges {
		surplus[e.To] += flow[i]
		surplus[e.From] -= flow[i]
	}
	return surplus
}
