package unwrap

import (
	"slices"

	"swath/api"
)

// NetOf gives the net of a task.
func NetOf(t api.UnwrapTask) (api.UnwrapNet, api.Errno) {
	if err := CheckTask(t); err != api.OK {
		return api.UnwrapNet{}, err
	}
	return netOf(t), api.OK
}

func netOf(t api.UnwrapTask) api.UnwrapNet {
	n := api.UnwrapNet{Nodes: len(t.Map.Phases)}
	weights := slices.Concat(t.Across, t.Down)
	for number, pair := range neighbours(t.Map.Rows, t.Map.Columns) {
		from, to := t.Map.Phases[pair[0]], t.Map.Phases[pair[1]]
		if from == api.PhaseVoid || to == api.PhaseVoid {
			continue
		}
		jump := (to - from - wrap(to-from)) / api.PhaseTurn
		n.Edges = append(n.Edges, api.UnwrapEdge{From: pair[0], To: pair[1], Jump: jump, Weight: weights[number]})
	}
	return n
}

// CheckField gives the cost of a field.
func CheckField(t api.UnwrapTask, u api.PhaseMap) (int, api.Errno) {
	turns, err := turnsOf(t, u)
	if err != api.OK {
		return 0, err
	}
	return costOf(netOf(t), turns), api.OK
}

// turnsOf gives the turns of a field.
func turnsOf(t api.UnwrapTask, u api.PhaseMap) ([]int, api.Errno) {
	if err := CheckTask(t); err != api.OK {
		return nil, err
	}
	if u.Rows != t.Map.Rows || u.Columns != t.Map.Columns || len(u.Phases) != len(t.Map.Phases) {
		return nil, api.ErrShape
	}
	var turns []int
	for i, wrapped := range t.Map.Phases {
		n, err := turnsFrom(wrapped, u.Phases[i])
		if err != api.OK {
			return nil, err
		}
		turns = append(turns, n)
	}
	return turns, api.OK
}

// turnsFrom gives the turns of a pixel by its wrapped phase and that of a field.
func turnsFrom(wrapped, phase int) (int, api.Errno) {
	if (wrapped == api.PhaseVoid) != (phase == api.PhaseVoid) {
		return 0, api.ErrVoid
	}
	if err := checkPhase(phase); err != api.OK {
		return 0, err
	}
	more := phase - wrapped
	if more%api.PhaseTurn != 0 {
		return 0, api.ErrUnit
	}
	return more / api.PhaseTurn, api.OK
}

// Unwrap gives a best field, a right flow whose value is its cost, and the cost.
func Unwrap(t api.UnwrapTask) (api.PhaseMap, []int, int, api.Errno) {
	if err := CheckTask(t); err != api.OK {
		return api.PhaseMap{}, nil, 0, err
	}
	n := netOf(t)
	turns, flow := best(n)
	u := api.PhaseMap{Rows: t.Map.Rows, Columns: t.Map.Columns}
	for i, phase := range t.Map.Phases {
		u.Phases = append(u.Phases, shifted(phase, turns[i]))
	}
	return u, flow, costOf(n, turns), api.OK
}

// CheckFlow gives the value of a right flow of the net of a task.
func CheckFlow(t api.UnwrapTask, flow []int) (int, api.Errno) {
	if err := CheckTask(t); err != api.OK {
		return 0, err
	}
	return CheckFlowOf(netOf(t), flow)
}

// Cuts gives the pairs of neighbours with an excess in a field.
func Cuts(t api.UnwrapTask, u api.PhaseMap) ([][2]int, api.Errno) {
	turns, err := turnsOf(t, u)
	if err != api.OK {
		return nil, err
	}
	return pairsWith(netOf(t), func(e api.UnwrapEdge) bool { return excessOf(e, turns) != 0 }), api.OK
}

// Undecided gives the pairs of neighbours whose excess is not the same in all best fields. Nodes of different parts are in different classes, too.
func Undecided(t api.UnwrapTask) ([][2]int, api.Errno) {
	if err := CheckTask(t); err != api.OK {
		return nil, err
	}
	n := netOf(t)
	least := leastOfClasses(n)
	return pairsWith(n, func(e api.UnwrapEdge) bool { return least[e.From] != least[e.To] }), api.OK
}

func pairsWith(n api.UnwrapNet, has func(e api.UnwrapEdge) bool) [][2]int {
	var pairs [][2]int
	for _, e := range n.Edges {
		if has(e) {
			pairs = append(pairs, [2]int{e.From, e.To})
		}
	}
	return pairs
}
