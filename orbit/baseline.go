package orbit

import "swath/api"

// maxApart limits the coordinates of a baseline, in size.
const maxApart = 1000000

// Baseline gives how far the second orbit is from the first one, along the sight to a place and across it.
func Baseline(a, b api.Orbit, x api.OrbitBase) ([2]api.Range, api.Errno) {
	first, second := path{a}, path{b}
	err := firstError(
		first.check(),
		second.check(),
		first.checkTick(x.First),
		second.checkTick(x.Second),
		checkPlace(x.Place),
	)
	if err != api.OK {
		return [2]api.Range{}, err
	}
	from := first.nominal(x.First)
	base, sight := difference(second.nominal(x.Second), from), difference(x.Place, from)
	if err := firstError(checkApart(base), errorIf(sight == [3]int{}, api.ErrZero)); err != api.OK {
		return [2]api.Range{}, err
	}
	along := alongOf(base, sight)
	return [2]api.Range{along, acrossOf(base, along)}, api.OK
}

func checkApart(base [3]int) api.Errno {
	for _, x := range base {
		if !within(x, -maxApart, maxApart) {
			return api.ErrLarge
		}
	}
	return api.OK
}

// alongOf divides by the length of the sight, which is a number from low to high.
func alongOf(base, sight [3]int) api.Range {
	d, square := product(base, sight), product(sight, sight)
	low, high := rootDown(square), rootUp(square)
	return api.Range{
		Lo: min(divideDown(d, low), divideDown(d, high)),
		Hi: max(divideUp(d, low), divideUp(d, high)),
	}
}

// acrossOf gives what of a baseline is left beside a number of the range along.
func acrossOf(base [3]int, along api.Range) api.Range {
	square := product(base, base)
	greatest, least := max(along.Hi, -along.Lo), max(along.Lo, -along.Hi, 0)
	return api.Range{
		Lo: rootDown(max(square-greatest*greatest, 0)),
		Hi: rootUp(max(square-least*least, 0)),
	}
}
