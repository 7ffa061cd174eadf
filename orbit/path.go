package orbit

import (
	"slices"

	"swath/api"
)

// path is an orbit that is followed. It has ticks only if its check is OK.
type path struct{ api.Orbit }

// moment is a tick from that of one state to that of the state behind it.
type moment struct {
	from, to api.OrbitState
	tick     int
}

// Nominal gives the nominal place at a tick.
func Nominal(o api.Orbit, tick int) (api.Place, api.Errno) {
	p := path{o}
	if err := firstError(p.check(), p.checkTick(tick)); err != api.OK {
		return api.Place{}, err
	}
	return p.nominal(tick), api.OK
}

// BoxAt gives the box at a tick.
func BoxAt(o api.Orbit, tick int) ([3]api.Range, api.Errno) {
	p := path{o}
	if err := firstError(p.check(), p.checkTick(tick)); err != api.OK {
		return [3]api.Range{}, err
	}
	return p.box(tick), api.OK
}

// SpeedOf gives by how much each coordinate changes in a tick of an arc.
func SpeedOf(o api.Orbit, arc int) ([3]api.Frac, api.Errno) {
	p := path{o}
	if err := firstError(p.check(), p.checkArc(arc)); err != api.OK {
		return [3]api.Frac{}, err
	}
	from, to := p.States[arc], p.States[arc+1]
	var speed [3]api.Frac
	for i, way := range difference(to.At, from.At) {
		speed[i] = lowest(way, to.Tick-from.Tick)
	}
	return speed, api.OK
}

// SideOf gives the side of an arc on which a place lies, as seen from above.
func SideOf(o api.Orbit, arc int, place api.Place) (int, api.Errno) {
	p := path{o}
	if err := firstError(p.check(), p.checkArc(arc), checkPlace(place)); err != api.OK {
		return 0, err
	}
	from := p.States[arc].At
	way, off := difference(p.States[arc+1].At, from), difference(place, from)
	turn := way[0]*off[1] - way[1]*off[0]
	switch {
	case turn > 0:
		return api.SideLeft, api.OK
	case turn < 0:
		return api.SideRight, api.OK
	}
	return api.SideUnder, api.OK
}

func (p path) check() api.Errno {
	_, err := CheckOrbit(p.Orbit)
	return err
}

func (p path) checkTick(tick int) api.Errno {
	return errorIf(!p.has(tick), api.ErrRange)
}

func (p path) checkArc(arc int) api.Errno {
	return errorIf(!within(arc, 0, len(p.States)-2), api.ErrMissing)
}

// has is asked of paths without states, too: errors of ticks are looked for beside those of the orbit.
func (p path) has(tick int) bool {
	return len(p.States) > 0 && within(tick, p.first(), p.last())
}

func (p path) first() int { return p.States[0].Tick }

func (p path) last() int { return p.States[len(p.States)-1].Tick }

// ticks yields all ticks of a path.
func (p path) ticks(yield func(int) bool) {
	for tick := p.first(); tick <= p.last(); tick++ {
		if !yield(tick) {
			return
		}
	}
}

func (p path) moment(tick int) moment {
	arc, _ := slices.BinarySearchFunc(p.States[1:], tick, func(s api.OrbitState, tick int) int {
		return s.Tick - tick
	})
	return moment{p.States[arc], p.States[arc+1], tick}
}

// nominal rounds each coordinate to the nearest whole number, halves up.
func (p path) nominal(tick int) api.Place {
	m := p.moment(tick)
	from, to := coordinates(m.from.At), coordinates(m.to.At)
	var at [3]int
	for i := range at {
		at[i] = divideDown(2*m.between(from[i], to[i])+m.span(), 2*m.span())
	}
	return api.Place{X: at[0], Y: at[1], Z: at[2]}
}

func (p path) box(tick int) [3]api.Range {
	m := p.moment(tick)
	from, to := coordinates(m.from.At), coordinates(m.to.At)
	off := m.between(m.from.Error, m.to.Error)
	if !m.isAtState() {
		off += p.Bend * m.span()
	}
	var box [3]api.Range
	for i := range box {
		middle := m.between(from[i], to[i])
		box[i] = api.Range{Lo: divideDown(middle-off, m.span()), Hi: divideUp(middle+off, m.span())}
	}
	return box
}

func (m moment) span() int { return m.to.Tick - m.from.Tick }

func (m moment) isAtState() bool {
	return m.tick == m.from.Tick || m.tick == m.to.Tick
}

// between gives, times the span, what lies at the tick on the straight line from a to b.
func (m moment) between(a, b int) int {
	return a*m.span() + (b-a)*(m.tick-m.from.Tick)
}
