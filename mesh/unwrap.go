package mesh

import "swath/api"

// CheckTurns gives the cost of right turns, or else the first triangle that they do not close.
func CheckTurns(t api.MeshTask, turns []int) (int, api.Errno) {
	s, err := sheetOfTask(t)
	if err != api.OK {
		return 0, err
	}
	if err := s.checkTurns(turns); err != api.OK {
		return 0, err
	}
	if triangle, open := s.firstOpen(turns); open {
		return triangle, api.ErrCycle
	}
	return costOf(t.Costs, turns), api.OK
}

func costOf(costs, turns []int) int {
	sum := 0
	for e, turn := range turns {
		sum += costs[e] * max(turn, -turn)
	}
	return sum
}

// CheckPotentials gives the bound of right potentials.
func CheckPotentials(t api.MeshTask, potentials []int) (int, api.Errno) {
	s, err := sheetOfTask(t)
	if err != api.OK {
		return 0, err
	}
	if err := checkList(potentials, len(s.Triangles), checkPotential); err != api.OK {
		return 0, err
	}
	potentialOf := func(side int) int {
		if side == outside {
			return 0
		}
		return potentials[side]
	}
	for e, side := range s.sides {
		if !withinSize(potentialOf(side[0])-potentialOf(side[1]), t.Costs[e]) {
			return 0, api.ErrProof
		}
	}
	bound := 0
	for triangle, closure := range s.closures {
		bound -= closure * potentials[triangle]
	}
	return bound, api.OK
}

// Unwrap gives right turns of least cost, right potentials whose bound is this cost, and the cost.
func Unwrap(t api.MeshTask) ([]int, []int, int, api.Errno) {
	s, err := sheetOfTask(t)
	if err != api.OK {
		return nil, nil, 0, err
	}
	v := solved(s, t.Costs)
	return v.turns, v.potentials()[1:], costOf(t.Costs, v.turns), api.OK
}

// Undecided gives the edges whose turns are not the same in all right turns of least cost.
func Undecided(t api.MeshTask) ([][2]int, api.Errno) {
	s, err := sheetOfTask(t)
	if err != api.OK {
		return nil, err
	}
	v := solved(s, t.Costs)
	varies := make([]bool, len(s.edges))
	tight := v.tightArcs()
	for _, a := range tight {
		varies[a.edge] = varies[a.edge] || v.isOnCircle(a, tight)
	}
	var undecided [][2]int
	for number, e := range s.edges {
		if varies[number] {
			undecided = append(undecided, e)
		}
	}
	return undecided, api.OK
}
