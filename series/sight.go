package series

import "swath/api"

const (
	maxSeen = 1000
	// seenParts are the parts of a movement that a track sees.
	seenParts = 1000
)

// CheckSights tells whether what two tracks see has its form.
func CheckSights(x api.TwoTracks) api.Errno {
	return firstError(checkSight(x.First), checkSight(x.Second))
}

func checkSight(x api.TrackSight) api.Errno {
	right := withinSize(x.Up, maxSeen) && withinSize(x.East, maxSeen)
	right = right && withinSize(x.Moved.Lo, api.MaxSight) && withinSize(x.Moved.Hi, api.MaxSight)
	return firstError(errorIf(!right, api.ErrRange), errorIf(x.Moved.Lo > x.Moved.Hi, api.ErrOrder))
}

// resolved is how up and east follow from the movements that both tracks saw: each is a sum of these with two weights, times seenParts, over a denominator above 0.
type resolved struct {
	up, east [2]int
	den      int
}

// resolve gives how up and east follow: ErrRank if the tracks do not determine them.
func resolve(x api.TwoTracks) (resolved, api.Errno) {
	if err := CheckSights(x); err != api.OK {
		return resolved{}, err
	}
	a, b := x.First, x.Second
	determinant := a.Up*b.East - b.Up*a.East
	switch {
	case determinant == 0:
		return resolved{}, api.ErrRank
	case determinant < 0:
		return resolved{[2]int{-b.East, a.East}, [2]int{b.Up, -a.Up}, -determinant}, api.OK
	}
	return resolved{[2]int{b.East, -a.East}, [2]int{-b.Up, a.Up}, determinant}, api.OK
}

// UpAndEast gives the movements upwards and to the east that follow from the middles of what both tracks saw.
func UpAndEast(x api.TwoTracks) ([2]api.Frac, api.Errno) {
	r, err := resolve(x)
	if err != api.OK {
		return [2]api.Frac{}, err
	}
	l, err := smallFracs(2*r.den, seenParts*twiceMiddle(x, r.up), seenParts*twiceMiddle(x, r.east))
	if err != api.OK {
		return [2]api.Frac{}, err
	}
	return [2]api.Frac{l[0], l[1]}, api.OK
}

// twiceMiddle gives the sum of both ends of what both tracks saw, with weights.
func twiceMiddle(x api.TwoTracks, weights [2]int) int {
	a, b := x.First.Moved, x.Second.Moved
	return weights[0]*(a.Lo+a.Hi) + weights[1]*(b.Lo+b.Hi)
}

// UpAndEastBox gives the enclosures of the movements upwards and to the east for all that both tracks may have seen.
func UpAndEastBox(x api.TwoTracks) ([2]api.Range, api.Errno) {
	r, err := resolve(x)
	if err != api.OK {
		return [2]api.Range{}, err
	}
	return [2]api.Range{r.enclosure(x, r.up), r.enclosure(x, r.east)}, api.OK
}

// enclosure gives the sums with weights from the least to the greatest one.
func (r resolved) enclosure(x api.TwoTracks, weights [2]int) api.Range {
	a, b := weighted(x.First.Moved, weights[0]), weighted(x.Second.Moved, weights[1])
	return api.Range{
		Lo: divideDown(seenParts*(a.Lo+b.Lo), r.den),
		Hi: divideUp(seenParts*(a.Hi+b.Hi), r.den),
	}
}

func weighted(x api.Range, weight int) api.Range {
	if weight < 0 {
		return api.Range{Lo: weight * x.Hi, Hi: weight * x.Lo}
	}
	return api.Range{Lo: weight * x.Lo, Hi: weight * x.Hi}
}
