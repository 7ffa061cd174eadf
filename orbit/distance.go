package orbit

import "swath/api"

// SquareAt gives the squares from a place to the box at a tick.
func SquareAt(o api.Orbit, tick int, place api.Place) (api.Range, api.Errno) {
	p := path{o}
	if err := firstError(p.check(), p.checkTick(tick), checkPlace(place)); err != api.OK {
		return api.Range{}, err
	}
	return p.squares(tick, place), api.OK
}

// DistanceAt gives the distances from a place to the box at a tick.
func DistanceAt(o api.Orbit, tick int, place api.Place) (api.Range, api.Errno) {
	squares, err := SquareAt(o, tick, place)
	if err != api.OK {
		return api.Range{}, err
	}
	return api.Range{Lo: rootDown(squares.Lo), Hi: rootUp(squares.Hi)}, api.OK
}

// Nearest gives the first tick whose nominal place is nearest to a place, and the square of this distance.
func Nearest(o api.Orbit, place api.Place) (int, int, api.Errno) {
	p := path{o}
	if err := firstError(p.check(), checkPlace(place)); err != api.OK {
		return 0, 0, err
	}
	nearest, least := p.leastOf(func(tick int) int { return p.nominalSquare(tick, place) })
	return nearest, least, api.OK
}

// MayBeNearest gives the first and the last tick that may be nearest to a place, and the tick that proves it of all others.
func MayBeNearest(o api.Orbit, place api.Place) (api.Range, int, api.Errno) {
	p := path{o}
	if err := firstError(p.check(), checkPlace(place)); err != api.OK {
		return api.Range{}, 0, err
	}
	witness, most := p.leastOf(func(tick int) int { return p.squares(tick, place).Hi })
	ticks := api.Range{Lo: witness, Hi: witness}
	for tick := range p.ticks {
		if p.squares(tick, place).Lo <= most {
			ticks.Lo, ticks.Hi = min(ticks.Lo, tick), max(ticks.Hi, tick)
		}
	}
	return ticks, witness, api.OK
}

// CheckNearest accepts ticks if the witness is surely nearer than all others, and tells how many they are.
func CheckNearest(o api.Orbit, place api.Place, x api.OrbitNearest) (int, api.Errno) {
	p := path{o}
	err := firstError(
		p.check(),
		checkPlace(place),
		p.checkTick(x.Ticks.Lo),
		p.checkTick(x.Ticks.Hi),
		p.checkTick(x.Witness),
		errorIf(x.Ticks.Lo > x.Ticks.Hi, api.ErrOrder),
	)
	if err != api.OK {
		return 0, err
	}
	most := p.squares(x.Witness, place).Hi
	for tick := range p.ticks {
		if !within(tick, x.Ticks.Lo, x.Ticks.Hi) && p.squares(tick, place).Lo <= most {
			return 0, api.ErrProof
		}
	}
	return x.Ticks.Hi - x.Ticks.Lo + 1, api.OK
}

// Passes gives the longest ranges of ticks whose nominal places are at most so far away from a place.
func Passes(o api.Orbit, place api.Place, most int) ([]api.Range, api.Errno) {
	p := path{o}
	far := errorIf(!within(most, 0, api.MaxPlace), api.ErrRange)
	if err := firstError(p.check(), checkPlace(place), far); err != api.OK {
		return nil, err
	}
	var passes []api.Range
	for tick := range p.ticks {
		if p.nominalSquare(tick, place) <= most*most {
			passes = withTick(passes, tick)
		}
	}
	return passes, api.OK
}

// leastOf gives the first tick of which the least number is told, and this number.
func (p path) leastOf(tell func(tick int) int) (int, int) {
	first, least := p.first(), tell(p.first())
	for tick := range p.ticks {
		if n := tell(tick); n < least {
			first, least = tick, n
		}
	}
	return first, least
}

func (p path) nominalSquare(tick int, place api.Place) int {
	return squareBetween(p.nominal(tick), place)
}

// squares go from the nearest point of the box to the farthest one: in each coordinate both are found alone.
func (p path) squares(tick int, place api.Place) api.Range {
	at := coordinates(place)
	var squares api.Range
	for i, side := range p.box(tick) {
		near := max(side.Lo-at[i], at[i]-side.Hi, 0)
		far := max(side.Hi-at[i], at[i]-side.Lo)
		squares.Lo += near * near
		squares.Hi += far * far
	}
	return squares
}

// withTick adds a tick behind those of the ranges: to the last range, if it is next to it.
func withTick(ranges []api.Range, tick int) []api.Range {
	if last := len(ranges) - 1; last >= 0 && ranges[last].Hi == tick-1 {
		ranges[last].Hi = tick
		return ranges
	}
	return append(ranges, api.Range{Lo: tick, Hi: tick})
}
