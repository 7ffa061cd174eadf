package orbit

import (
	"slices"

	"swath/api"
)

// Agree tells whether two orbits are at the same place at a tick.
func Agree(a, b api.Orbit, tick int) (int, api.Errno) {
	first, second := path{a}, path{b}
	err := firstError(first.check(), second.check(), first.checkTick(tick), second.checkTick(tick))
	if err != api.OK {
		return 0, err
	}
	one, other := first.box(tick), second.box(tick)
	switch {
	case !meet(one, other):
		return api.AnswerNo, api.OK
	case one == other && isPoint(one):
		return api.AnswerYes, api.OK
	}
	return api.AnswerMaybe, api.OK
}

// Corrected gives the orbit with another state in the place of one.
func Corrected(o api.Orbit, state int, s api.OrbitState) (api.Orbit, api.Errno) {
	p := path{o}
	if err := firstError(p.check(), p.checkNumber(state)); err != api.OK {
		return api.Orbit{}, err
	}
	o.States = slices.Clone(o.States)
	o.States[state] = s
	return checked(o)
}

// Without gives the orbit without a state.
func Without(o api.Orbit, state int) (api.Orbit, api.Errno) {
	p := path{o}
	if err := firstError(p.check(), p.checkNumber(state)); err != api.OK {
		return api.Orbit{}, err
	}
	o.States = slices.Concat(o.States[:state], o.States[state+1:])
	return checked(o)
}

// Touched gives the longest ranges of ticks at which two orbits do not have the same box.
func Touched(a, b api.Orbit) ([]api.Range, api.Errno) {
	first, second := path{a}, path{b}
	if err := firstError(first.check(), second.check()); err != api.OK {
		return nil, err
	}
	both := pair{first, second}
	var touched []api.Range
	for tick := range both.ticks {
		if both.differ(tick) {
			touched = withTick(touched, tick)
		}
	}
	return touched, api.OK
}

func (p path) checkNumber(state int) api.Errno {
	return errorIf(!within(state, 0, len(p.States)-1), api.ErrMissing)
}

func checked(o api.Orbit) (api.Orbit, api.Errno) {
	if _, err := CheckOrbit(o); err != api.OK {
		return api.Orbit{}, err
	}
	return o, api.OK
}

// meet tells whether two boxes have a point in common.
func meet(a, b [3]api.Range) bool {
	for i := range a {
		if a[i].Hi < b[i].Lo || b[i].Hi < a[i].Lo {
			return false
		}
	}
	return true
}

func isPoint(box [3]api.Range) bool {
	for _, side := range box {
		if side.Lo != side.Hi {
			return false
		}
	}
	return true
}

type pair struct{ one, other path }

// ticks yields the ticks of one or both paths. Between both there may be far more ticks than they have: these are passed over.
func (p pair) ticks(yield func(int) bool) {
	for tick := min(p.one.first(), p.other.first()); tick <= max(p.one.last(), p.other.last()); tick++ {
		if !p.one.has(tick) && !p.other.has(tick) {
			tick = max(p.one.first(), p.other.first())
		}
		if !yield(tick) {
			return
		}
	}
}

func (p pair) differ(tick int) bool {
	if !p.one.has(tick) || !p.other.has(tick) {
		return true
	}
	return p.one.box(tick) != p.other.box(tick)
}
