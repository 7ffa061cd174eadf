package fringe

import (
	"maps"
	"slices"

	"swath/api"
)

// side is one side of a box: where it begins, whether it goes down, how many steps it has, and whether they are added (1) or taken away (-1).
type side struct {
	from  place
	down  bool
	steps int
	sign  phase
}

// StepAt gives the step from a pixel to the right, or down.
func StepAt(m api.PhaseMap, at [2]int, down bool) (int, api.Errno) {
	if err := checkMaps(m); err != api.OK {
		return 0, err
	}
	step, err := stepAt(gridOfMap(m), at, down)
	return int(step), err
}

func stepAt(g grid[phase], at place, down bool) (phase, api.Errno) {
	if !g.has(at) || !g.has(at.next(down)) {
		return 0, api.ErrRange
	}
	step := g.at(at.next(down)).minus(g.at(at))
	if step.isVoid() {
		return 0, api.ErrVoid
	}
	return step, api.OK
}

// CommonStep gives the step that occurs most often, of several ones the least one.
func CommonStep(m api.PhaseMap, down bool) (int, api.Errno) {
	if err := checkMaps(m); err != api.OK {
		return 0, err
	}
	counts := stepCounts(gridOfMap(m), down)
	if len(counts) == 0 {
		return 0, api.ErrNone
	}
	steps := slices.Sorted(maps.Keys(counts))
	common := steps[0]
	for _, step := range steps {
		if counts[step] > counts[common] {
			common = step
		}
	}
	return int(common), api.OK
}

// stepCounts tells of each step how often it occurs.
func stepCounts(g grid[phase], down bool) map[phase]int {
	counts := map[phase]int{}
	for at := range g.places() {
		if step, err := stepAt(g, at, down); err == api.OK {
			counts[step]++
		}
	}
	return counts
}

// Residues gives the plaquettes whose turns are not 0, row by row.
func Residues(m api.PhaseMap) ([]api.FringeResidue, api.Errno) {
	if err := checkMaps(m); err != api.OK {
		return nil, err
	}
	g := gridOfMap(m)
	var residues []api.FringeResidue
	for at := range g.places() {
		turns, err := turnsAround(g, api.FringeBox{Row: at[0], Column: at[1], High: 1, Wide: 1})
		if err == api.OK && turns != 0 {
			residues = append(residues, api.FringeResidue{Row: at[0], Column: at[1], Turns: turns})
		}
	}
	return residues, api.OK
}

// TurnsAround gives the turns around a box.
func TurnsAround(m api.PhaseMap, b api.FringeBox) (int, api.Errno) {
	if err := checkMaps(m); err != api.OK {
		return 0, err
	}
	return turnsAround(gridOfMap(m), b)
}

func turnsAround(g grid[phase], b api.FringeBox) (int, api.Errno) {
	if !holds(g, b) {
		return 0, api.ErrRange
	}
	var parts phase
	for _, s := range sidesOf(b) {
		steps, err := s.sum(g)
		if err != api.OK {
			return 0, err
		}
		parts += s.sign * steps
	}
	return int(parts) / api.PhaseTurn, api.OK
}

// holds tells whether a box is one of the map. Its size is held against what is left behind its first pixel, as the sum of both may be too great for an int.
func holds(g grid[phase], b api.FringeBox) bool {
	return g.has(place{b.Row, b.Column}) && within(b.High, 1, g.rows-1-b.Row) && within(b.Wide, 1, g.columns-1-b.Column)
}

func sidesOf(b api.FringeBox) [4]side {
	corner := place{b.Row, b.Column}
	right := place{b.Row, b.Column + b.Wide}
	below := place{b.Row + b.High, b.Column}
	return [4]side{
		{corner, false, b.Wide, 1},
		{right, true, b.High, 1},
		{below, false, b.Wide, -1},
		{corner, true, b.High, -1},
	}
}

// sum adds the steps of a side.
func (s side) sum(g grid[phase]) (phase, api.Errno) {
	var sum phase
	at := s.from
	for range s.steps {
		step, err := stepAt(g, at, s.down)
		if err != api.OK {
			return 0, err
		}
		sum += step
		at = at.next(s.down)
	}
	return sum, api.OK
}
