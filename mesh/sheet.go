package mesh

import (
	"slices"

	"swath/api"
)

// sheet is a net with phases: the differences of its edges, and the closures of its triangles.
type sheet struct {
	*net
	edges, sides          [][2]int
	differences, closures []int
}

func sheetOf(n api.MeshNet, phases []int) (sheet, api.Errno) {
	m, err := rightNet(n)
	if err != api.OK {
		return sheet{}, err
	}
	if err := checkList(phases, len(n.Points), checkPhase); err != api.OK {
		return sheet{}, err
	}
	s := sheet{net: m, edges: m.edges(), sides: m.sides()}
	for _, e := range s.edges {
		s.differences = append(s.differences, wrap(phases[e[1]]-phases[e[0]]))
	}
	for _, sum := range s.around(s.differences) {
		s.closures = append(s.closures, sum/api.PhaseTurn)
	}
	return s, api.OK
}

func sheetOfTask(t api.MeshTask) (sheet, api.Errno) {
	s, err := sheetOf(t.Net, t.Phases)
	if err != api.OK {
		return sheet{}, err
	}
	if err := checkList(t.Costs, len(s.edges), checkCost); err != api.OK {
		return sheet{}, err
	}
	return s, api.OK
}

// wrap gives the wrapped difference of two wrapped phases.
func wrap(difference int) int {
	return (difference+halfTurn+api.PhaseTurn)%api.PhaseTurn - halfTurn
}

// around gives for each triangle the sum along its directed edges of numbers of the edges.
func (s sheet) around(numbers []int) []int {
	sums := make([]int, len(s.Triangles))
	for e, side := range s.sides {
		if side[0] != outside {
			sums[side[0]] += numbers[e]
		}
		if side[1] != outside {
			sums[side[1]] -= numbers[e]
		}
	}
	return sums
}

func (s sheet) checkTurns(turns []int) api.Errno {
	return checkList(turns, len(s.edges), checkTurn)
}

// firstOpen gives the first triangle that turns do not close.
func (s sheet) firstOpen(turns []int) (int, bool) {
	for triangle, sum := range s.around(turns) {
		if s.closures[triangle]+sum != 0 {
			return triangle, true
		}
	}
	return 0, false
}

// Differences gives the wrapped difference of each edge.
func Differences(n api.MeshNet, phases []int) ([]int, api.Errno) {
	s, err := sheetOf(n, phases)
	return s.differences, err
}

// Closures gives the whole turns by which the differences around each triangle fail to close.
func Closures(n api.MeshNet, phases []int) ([]int, api.Errno) {
	s, err := sheetOf(n, phases)
	return s.closures, err
}

// Field gives the phases of the points with right turns.
func Field(n api.MeshNet, phases, turns []int) ([]int, api.Errno) {
	s, err := sheetOf(n, phases)
	if err != api.OK {
		return nil, err
	}
	if err := s.checkTurns(turns); err != api.OK {
		return nil, err
	}
	if _, open := s.firstOpen(turns); open {
		return nil, api.ErrCycle
	}
	return s.field(phases[0], turns), api.OK
}

func (s sheet) field(first int, turns []int) []int {
	field := make([]int, len(s.Points))
	known := make([]bool, len(s.Points))
	field[0], known[0] = first, true
	// A net hangs together: each round reaches some more points.
	for slices.Contains(known, false) {
		for number, e := range s.edges {
			step := s.differences[number] + api.PhaseTurn*turns[number]
			switch {
			case known[e[0]] && !known[e[1]]:
				field[e[1]], known[e[1]] = field[e[0]]+step, true
			case known[e[1]] && !known[e[0]]:
				field[e[0]], known[e[0]] = field[e[1]]-step, true
			}
		}
	}
	return field
}
