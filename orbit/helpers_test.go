package orbit_test

import (
	"math"
	"math/big"
	"reflect"
	"slices"
	"strings"
	"testing"

	"swath/api"
)

// expect compares a value with its error code.
func expect[T any](t *testing.T, what string, got T, err api.Errno, want T, wantErr api.Errno) {
	t.Helper()
	if !reflect.DeepEqual(got, want) || err != wantErr {
		t.Errorf("%s: %v, error %d; want %v, error %d", what, got, err, want, wantErr)
	}
}

func at(x, y, z int) api.Place { return api.Place{X: x, Y: y, Z: z} }

func state(tick, x, y, z, wrong int) api.OrbitState {
	return api.OrbitState{Tick: tick, At: at(x, y, z), Error: wrong}
}

func orbitOf(name string, bend int, states ...api.OrbitState) api.Orbit {
	return api.Orbit{Name: name, Bend: bend, States: states}
}

func span(lo, hi int) api.Range { return api.Range{Lo: lo, Hi: hi} }

// sample is the orbit of the chapter's examples.
func sample() api.Orbit {
	return orbitOf("p", 2, state(0, 0, 0, 100, 1), state(10, 50, 20, 100, 3))
}

// standing stays at one place, and is surely there.
func standing(from, to, x, y, z int) api.Orbit {
	return orbitOf("s", 0, state(from, x, y, z, 0), state(to, x, y, z, 0))
}

func copyOf(o api.Orbit) api.Orbit {
	o.States = slices.Clone(o.States)
	return o
}

// manyStates gives states at the ticks from 0 on.
func manyStates(n int) []api.OrbitState {
	var states []api.OrbitState
	for i := range n {
		states = append(states, state(i, i, -i, 0, 0))
	}
	return states
}

// source gives the same numbers in each run.
type source int

func (s *source) below(n int) int {
	*s = (*s*1103515245 + 12345) % 2147483648
	return int(*s) / 8 % n
}

func (s *source) from(lo, hi int) int { return lo + s.below(hi-lo+1) }

func (s *source) place(size int) api.Place {
	return at(s.from(-size, size), s.from(-size, size), s.from(-size, size))
}

// orbit gives an orbit near 0 with a few arcs of a few ticks each.
func (s *source) orbit(size, wrong int) api.Orbit {
	o := orbitOf("o", s.below(wrong+1))
	tick := s.below(5)
	for range s.from(2, 6) {
		o.States = append(o.States, api.OrbitState{Tick: tick, At: s.place(size), Error: s.below(wrong + 1)})
		tick += s.from(1, 9)
	}
	return o
}

func ticksOf(o api.Orbit) []int {
	var ticks []int
	for tick := o.States[0].Tick; tick <= o.States[len(o.States)-1].Tick; tick++ {
		ticks = append(ticks, tick)
	}
	return ticks
}

func coordinates(p api.Place) [3]int { return [3]int{p.X, p.Y, p.Z} }

// straight is the definition: what lies at a tick on the straight line between the states beside it.
func straight(o api.Orbit, tick int, tell func(api.OrbitState) int) *big.Rat {
	for i, s := range o.States {
		if s.Tick == tick {
			return big.NewRat(int64(tell(s)), 1)
		}
		if s.Tick > tick {
			before := o.States[i-1]
			part := big.NewRat(int64(tick-before.Tick), int64(s.Tick-before.Tick))
			part.Mul(part, big.NewRat(int64(tell(s)-tell(before)), 1))
			return part.Add(part, big.NewRat(int64(tell(before)), 1))
		}
	}
	return nil
}

func nominalPoint(o api.Orbit, tick int) [3]*big.Rat {
	var point [3]*big.Rat
	for i := range point {
		point[i] = straight(o, tick, func(s api.OrbitState) int { return coordinates(s.At)[i] })
	}
	return point
}

func down(r *big.Rat) int {
	return int(new(big.Int).Div(r.Num(), r.Denom()).Int64())
}

func up(r *big.Rat) int { return -down(new(big.Rat).Neg(r)) }

func isState(o api.Orbit, tick int) bool {
	return slices.ContainsFunc(o.States, func(s api.OrbitState) bool { return s.Tick == tick })
}

// nominalPlace is the definition of the nominal place.
func nominalPlace(o api.Orbit, tick int) api.Place {
	var place [3]int
	for i, x := range nominalPoint(o, tick) {
		place[i] = down(x.Add(x, big.NewRat(1, 2)))
	}
	return at(place[0], place[1], place[2])
}

// boxOf is the definition of the box.
func boxOf(o api.Orbit, tick int) [3]api.Range {
	off := straight(o, tick, func(s api.OrbitState) int { return s.Error })
	if !isState(o, tick) {
		off.Add(off, big.NewRat(int64(o.Bend), 1))
	}
	var box [3]api.Range
	for i, x := range nominalPoint(o, tick) {
		box[i] = span(down(new(big.Rat).Sub(x, off)), up(new(big.Rat).Add(x, off)))
	}
	return box
}

func square(p, q api.Place) int {
	x, y, z := p.X-q.X, p.Y-q.Y, p.Z-q.Z
	return x*x + y*y + z*z
}

// squaresOf is the definition of the squares, by the corners of the box and the point of it nearest to the place.
func squaresOf(box [3]api.Range, p api.Place) api.Range {
	var near [3]int
	for i, x := range coordinates(p) {
		near[i] = min(max(x, box[i].Lo), box[i].Hi)
	}
	squares := span(square(p, at(near[0], near[1], near[2])), 0)
	for corner := range 8 {
		var point [3]int
		for i := range point {
			point[i] = [2]int{box[i].Lo, box[i].Hi}[corner>>i&1]
		}
		squares.Hi = max(squares.Hi, square(p, at(point[0], point[1], point[2])))
	}
	return squares
}

// rangesOf joins ascending ticks.
func rangesOf(ticks []int) []api.Range {
	var ranges []api.Range
	for i, tick := range ticks {
		if i == 0 || ticks[i-1] != tick-1 {
			ranges = append(ranges, span(tick, tick))
		}
		ranges[len(ranges)-1].Hi = tick
	}
	return ranges
}

type orbitFault struct {
	what   string
	orbit  api.Orbit
	number int
	err    api.Errno
}

// orbitFaults are orbits with errors, beside those that CheckOrbit gives.
func orbitFaults() []orbitFault {
	good, next := state(0, 0, 0, 0, 0), state(1, 0, 0, 0, 0)
	return []orbitFault{
		{"nothing", api.Orbit{}, 0, api.ErrName},
		{"no name", orbitOf("", -1, good, next), 0, api.ErrName},
		{"a long name", orbitOf("abcdefghijklm", 0, good, next), 0, api.ErrName},
		{"a name that begins with a digit", orbitOf("1a", 0, good, next), 0, api.ErrName},
		{"a name that begins with -", orbitOf("-a", 0, good, next), 0, api.ErrName},
		{"a name with a blank", orbitOf("a b", 0, good, next), 0, api.ErrName},
		{"a name with _", orbitOf("a_b", 0, good, next), 0, api.ErrName},
		{"a name with a letter that is not ASCII", orbitOf("a\u00e9", 0, good, next), 0, api.ErrName},
		{"a bend below 0", orbitOf("a", -1), 0, api.ErrRange},
		{"a great bend", orbitOf("a", 100001, good, next), 0, api.ErrRange},
		{"the greatest bend of all", orbitOf("a", math.MaxInt), 0, api.ErrRange},
		{"no states", orbitOf("a", 0), 0, api.ErrShape},
		{"one state", orbitOf("a", 0, state(-1, 0, 0, 0, 0)), 0, api.ErrShape},
		{"41 states", orbitOf("a", 0, append([]api.OrbitState{state(-1, 0, 0, 0, 0)}, manyStates(40)...)...), 0, api.ErrLarge},
		{"a tick below 0", orbitOf("a", 0, state(-1, 0, 0, 0, 0), next), 0, api.ErrRange},
		{"a great tick", orbitOf("a", 0, good, state(1000000001, 0, 0, 0, 0)), 1, api.ErrRange},
		{"the least tick of all", orbitOf("a", 0, good, state(math.MinInt, 0, 0, 0, 0)), 1, api.ErrRange},
		{"the greatest tick of all", orbitOf("a", 0, good, state(math.MaxInt, 0, 0, 0, 0)), 1, api.ErrRange},
		{"a great X", orbitOf("a", 0, state(0, 100000001, 0, 0, 0), next), 0, api.ErrRange},
		{"a great Y", orbitOf("a", 0, good, state(1, 0, 100000001, 0, 0)), 1, api.ErrRange},
		{"a small Z", orbitOf("a", 0, good, state(1, 0, 0, -100000001, 0)), 1, api.ErrRange},
		{"the least X of all", orbitOf("a", 0, state(0, math.MinInt, 0, 0, 0), next), 0, api.ErrRange},
		{"an error below 0", orbitOf("a", 0, state(0, 0, 0, 0, -1), next), 0, api.ErrRange},
		{"a great error", orbitOf("a", 0, good, state(1, 0, 0, 0, 100001)), 1, api.ErrRange},
		{"the same tick", orbitOf("a", 0, good, next, next), 2, api.ErrOrder},
		{"a tick before", orbitOf("a", 0, next, good), 1, api.ErrOrder},
		{"a tick before that is none", orbitOf("a", 0, good, state(-1, 0, 0, 0, 0)), 1, api.ErrRange},
		{"a tick before with a great error", orbitOf("a", 0, next, state(0, 0, 0, 0, 100001)), 1, api.ErrRange},
		{"a tick far behind", orbitOf("a", 0, good, state(20001, 0, 0, 0, 0)), 1, api.ErrLarge},
		{"a tick far behind the first one", orbitOf("a", 0, good, state(10001, 0, 0, 0, 0), state(20001, 0, 0, 0, 0)), 2, api.ErrLarge},
		{"a tick far behind, with a great place", orbitOf("a", 0, good, state(20001, 0, 0, 100000001, 0)), 1, api.ErrRange},
		{"two wrong states", orbitOf("a", 0, good, state(0, 0, 0, 0, 0), state(-1, 0, 0, 0, 0)), 1, api.ErrOrder},
	}
}

func wrongPlaces() []api.Place {
	return []api.Place{
		at(100000001, 0, 0), at(-100000001, 0, 0), at(0, 100000001, 0), at(0, -100000001, 0),
		at(0, 0, 100000001), at(0, 0, -100000001), at(math.MinInt, math.MaxInt, math.MinInt),
	}
}

func letters(n int) string { return strings.Repeat("a", n) }
