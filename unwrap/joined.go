package unwrap

import (
	"iter"
	"slices"

	"swath/api"
)

const maxShift = 1000

// Shifted gives a map of phases with whole turns added.
func Shifted(u api.PhaseMap, turns int) (api.PhaseMap, api.Errno) {
	err := firstError(checkPhases(u), errorIf(!withinSize(turns, maxShift), api.ErrRange))
	if err != api.OK {
		return api.PhaseMap{}, err
	}
	m := api.PhaseMap{Rows: u.Rows, Columns: u.Columns}
	for _, phase := range u.Phases {
		m.Phases = append(m.Phases, shifted(phase, turns))
	}
	return unlessLarge(m)
}

func shifted(phase, turns int) int {
	if phase == api.PhaseVoid {
		return phase
	}
	return phase + turns*api.PhaseTurn
}

func unlessLarge(m api.PhaseMap) (api.PhaseMap, api.Errno) {
	if slices.ContainsFunc(m.Phases, isLarge) {
		return api.PhaseMap{}, api.ErrLarge
	}
	return m, api.OK
}

// seam is two maps, the second one of which begins with so many columns that lie over the last ones of the first one.
type seam struct {
	a, b    api.PhaseMap
	overlap int
}

// Joined gives a map of phases with the rows of both maps, and at how many pixels that lie over each other they disagree.
func Joined(a, b api.PhaseMap, overlap int) (api.PhaseMap, int, api.Errno) {
	s := seam{a, b, overlap}
	if err := s.check(); err != api.OK {
		return api.PhaseMap{}, 0, err
	}
	votes, err := s.votes()
	if err != api.OK {
		return api.PhaseMap{}, 0, err
	}
	turns, others := elected(votes)
	m, err := unlessLarge(s.joined(turns))
	if err != api.OK {
		return api.PhaseMap{}, 0, err
	}
	return m, others, api.OK
}

func (s seam) check() api.Errno {
	return firstError(
		checkPhases(s.a),
		checkPhases(s.b),
		errorIf(s.a.Rows != s.b.Rows, api.ErrClash),
		errorIf(!within(s.overlap, 1, min(s.a.Columns, s.b.Columns)), api.ErrRange),
		errorIf(s.columns() > api.MaxSamples, api.ErrLarge),
	)
}

// columns gives how many columns the joined map has.
func (s seam) columns() int { return s.a.Columns + s.b.Columns - s.overlap }

// at gives the phases of both maps at a pixel of the joined one; a map that does not reach there is void.
func (s seam) at(row, column int) (int, int) {
	first, second := api.PhaseVoid, api.PhaseVoid
	if column < s.a.Columns {
		first = s.a.Phases[row*s.a.Columns+column]
	}
	if begin := s.a.Columns - s.overlap; column >= begin {
		second = s.b.Phases[row*s.b.Columns+column-begin]
	}
	return first, second
}

// phases yields the phases of both maps at each pixel of the joined one, row by row.
func (s seam) phases() iter.Seq2[int, int] {
	return func(yield func(int, int) bool) {
		for row := range s.a.Rows {
			for column := range s.columns() {
				if !yield(s.at(row, column)) {
					return
				}
			}
		}
	}
}

// votes tells of each number of turns at how many pixels the first map is more by it.
func (s seam) votes() (map[int]int, api.Errno) {
	votes := map[int]int{}
	for first, second := range s.phases() {
		if first == api.PhaseVoid || second == api.PhaseVoid {
			continue
		}
		more := first - second
		if more%api.PhaseTurn != 0 {
			return nil, api.ErrUnit
		}
		votes[more/api.PhaseTurn]++
	}
	return votes, errorIf(len(votes) == 0, api.ErrNone)
}

// elected gives the turns with the most votes, of several ones the least, and how many votes the others have.
func elected(votes map[int]int) (int, int) {
	best, most, all := 0, 0, 0
	for turns, count := range votes {
		all += count
		if count > most || count == most && turns < best {
			best, most = turns, count
		}
	}
	return best, all - most
}

func (s seam) joined(turns int) api.PhaseMap {
	m := api.PhaseMap{Rows: s.a.Rows, Columns: s.columns()}
	for first, second := range s.phases() {
		if first == api.PhaseVoid {
			first = shifted(second, turns)
		}
		m.Phases = append(m.Phases, first)
	}
	return m
}
