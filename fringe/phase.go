package fringe

import "swath/api"

const (
	halfTurn = api.PhaseTurn / 2
	void     = phase(api.PhaseVoid)
)

// phase is a number of parts of a turn, or void.
type phase int

func (p phase) isVoid() bool { return p == void }

func (p phase) isLarge() bool {
	return !within(int(p), -api.MaxPhase, api.MaxPhase)
}

func (p phase) wrapped() phase {
	if p.isVoid() {
		return void
	}
	above := (p + halfTurn) % api.PhaseTurn
	if above < 0 {
		above += api.PhaseTurn
	}
	return above - halfTurn
}

// plus gives the wrapped sum.
func (p phase) plus(q phase) phase {
	if p.isVoid() || q.isVoid() {
		return void
	}
	return (p + q).wrapped()
}

// minus gives the wrapped difference.
func (p phase) minus(q phase) phase {
	if p.isVoid() || q.isVoid() {
		return void
	}
	return (p - q).wrapped()
}

// Wrapped gives a map with its phases wrapped.
func Wrapped(m api.PhaseMap) (api.PhaseMap, api.Errno) {
	if err := checkMaps(m); err != api.OK {
		return api.PhaseMap{}, err
	}
	return mapOf(each(gridOfMap(m), phase.wrapped)), api.OK
}

// Difference gives the wrapped differences of two maps, the first one less the second one.
func Difference(a, b api.PhaseMap) (api.PhaseMap, api.Errno) {
	if err := checkMaps(a, b); err != api.OK {
		return api.PhaseMap{}, err
	}
	return mapOf(combined(gridOfMap(a), gridOfMap(b), phase.minus)), api.OK
}

// Total gives the wrapped sums of two maps.
func Total(a, b api.PhaseMap) (api.PhaseMap, api.Errno) {
	if err := checkMaps(a, b); err != api.OK {
		return api.PhaseMap{}, err
	}
	return mapOf(combined(gridOfMap(a), gridOfMap(b), phase.plus)), api.OK
}

// Closure gives what three maps miss of closing: the first two ones less the third one, wrapped.
func Closure(ab, bc, ac api.PhaseMap) (api.PhaseMap, api.Errno) {
	if err := checkMaps(ab, bc, ac); err != api.OK {
		return api.PhaseMap{}, err
	}
	around := combined(gridOfMap(ab), gridOfMap(bc), phase.plus)
	return mapOf(combined(around, gridOfMap(ac), phase.minus)), api.OK
}

// Histogram gives how many phases are in each of so many equal parts of a turn, from -2048 on.
func Histogram(m api.PhaseMap, bins int) ([]int, api.Errno) {
	err := firstError(checkMaps(m), errorIf(!within(bins, 1, api.PhaseTurn), api.ErrRange))
	if err != api.OK {
		return nil, err
	}
	if api.PhaseTurn%bins != 0 {
		return nil, api.ErrShape
	}
	counts := make([]int, bins)
	for _, p := range gridOfMap(m).cells {
		if !p.isVoid() {
			counts[(p.wrapped()+halfTurn)/phase(api.PhaseTurn/bins)]++
		}
	}
	return counts, api.OK
}
