package stack

import (
	"swath/api"
	"swath/unwrap"
)

// NetOf gives the net of a task.
func NetOf(t api.StackTask) (api.UnwrapNet, api.Errno) {
	l, err := levelled(t)
	if err != api.OK {
		return api.UnwrapNet{}, err
	}
	misses := l.misses(t.Phases)
	if err := firstError(checkAll(misses, checkWhole), checkAll(misses, checkJump)); err != api.OK {
		return api.UnwrapNet{}, err
	}
	n := api.UnwrapNet{Nodes: len(l.Scenes)}
	for pair, p := range l.Pairs {
		jump := misses[pair] / api.PhaseTurn
		n.Edges = append(n.Edges, api.UnwrapEdge{From: p.First, To: p.Second, Jump: jump, Weight: t.Weights[pair]})
	}
	return n, api.OK
}

func checkWhole(miss int) api.Errno {
	return errorIf(miss%api.PhaseTurn != 0, api.ErrUnit)
}

func checkJump(miss int) api.Errno {
	return errorIf(!withinSize(miss, api.MaxNetJump*api.PhaseTurn), api.ErrLarge)
}

// Corrections gives best corrections, a right flow whose value is their cost, and the cost.
func Corrections(t api.StackTask) ([]int, []int, int, api.Errno) {
	n, err := NetOf(t)
	if err != api.OK {
		return nil, nil, 0, err
	}
	turns, flow, cost, err := unwrap.SolveNet(n)
	if err != api.OK {
		return nil, nil, 0, err
	}
	var corrections []int
	for _, e := range n.Edges {
		corrections = append(corrections, turns[e.To]-turns[e.From]+e.Jump)
	}
	return corrections, flow, cost, api.OK
}

// CheckCorrections gives the cost of right corrections.
func CheckCorrections(t api.StackTask, turns []int) (int, api.Errno) {
	l, err := levelled(t)
	if err != api.OK {
		return 0, err
	}
	if err := checkList(turns, len(l.Pairs), checkTurn); err != api.OK {
		return 0, err
	}
	corrected := make([]int, len(turns))
	cost := 0
	for pair, turn := range turns {
		corrected[pair] = t.Phases[pair] - turn*api.PhaseTurn
		cost += t.Weights[pair] * size(turn)
	}
	if len(l.open(corrected)) > 0 {
		return 0, api.ErrBreak
	}
	return cost, api.OK
}

// CheckFlow gives the value of a right flow of the net of a task.
func CheckFlow(t api.StackTask, flow []int) (int, api.Errno) {
	n, err := NetOf(t)
	if err != api.OK {
		return 0, err
	}
	return unwrap.CheckFlowOf(n, flow)
}

// Undetermined gives the pairs whose turns are not the same in all best corrections.
func Undetermined(t api.StackTask) ([]int, api.Errno) {
	n, err := NetOf(t)
	if err != api.OK {
		return nil, err
	}
	classes, err := unwrap.NetClasses(n)
	if err != api.OK {
		return nil, err
	}
	var pairs []int
	for pair, e := range n.Edges {
		if classes[e.From] != classes[e.To] {
			pairs = append(pairs, pair)
		}
	}
	return pairs, api.OK
}
