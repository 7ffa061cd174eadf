package orbit_test

import (
	"math"
	"math/big"
	"testing"

	"swath/api"
	"swath/orbit"
)

// P2.2
func TestNominal(t *testing.T) {
	halves := orbitOf("h", 0, state(5, 0, 0, -3, 0), state(7, 1, -1, -8, 0), state(10, 0, 2, 0, 0))
	for _, x := range []struct {
		o    api.Orbit
		tick int
		want api.Place
	}{
		{sample(), 0, at(0, 0, 100)},
		{sample(), 3, at(15, 6, 100)},
		{sample(), 10, at(50, 20, 100)},
		// Halves go up, below 0 too.
		{halves, 6, at(1, 0, -5)},
		{halves, 7, at(1, -1, -8)},
		{halves, 8, at(1, 0, -5)},
		{halves, 9, at(0, 1, -3)},
		{standing(3, 20003, -7, 8, 9), 12345, at(-7, 8, 9)},
	} {
		got, err := orbit.Nominal(x.o, x.tick)
		expect(t, "Nominal", got, err, x.want, api.OK)
	}
}

// P2.2
func TestBoxAt(t *testing.T) {
	for _, x := range []struct {
		o    api.Orbit
		tick int
		want [3]api.Range
	}{
		{sample(), 0, [3]api.Range{span(-1, 1), span(-1, 1), span(99, 101)}},
		{sample(), 3, [3]api.Range{span(11, 19), span(2, 10), span(96, 104)}},
		{sample(), 10, [3]api.Range{span(47, 53), span(17, 23), span(97, 103)}},
		// At the tick of a state in the middle the bend does not count.
		{orbitOf("m", 9, state(0, 0, 0, 0, 0), state(1, 5, 6, 7, 2), state(2, 0, 0, 0, 0)), 1, [3]api.Range{span(3, 7), span(4, 8), span(5, 9)}},
		{orbitOf("m", 9, state(0, 0, 0, 0, 0), state(1, 5, 6, 7, 0), state(3, 6, 6, 7, 0)), 2, [3]api.Range{span(-4, 15), span(-3, 15), span(-2, 16)}},
		{standing(0, 2, 1, -2, 3), 1, [3]api.Range{span(1, 1), span(-2, -2), span(3, 3)}},
		// Whole bounds of a point that is none.
		{orbitOf("w", 0, state(0, 0, 0, 0, 0), state(2, 1, 0, -1, 1)), 1, [3]api.Range{span(0, 1), span(-1, 1), span(-1, 0)}},
	} {
		got, err := orbit.BoxAt(x.o, x.tick)
		expect(t, "BoxAt", got, err, x.want, api.OK)
	}
}

// P2.2: against the definitions, reckoned with fractions.
func TestPlacesByDefinition(t *testing.T) {
	numbers := source(2)
	for range 60 {
		o := numbers.orbit(30, 5)
		for _, tick := range ticksOf(o) {
			place, err := orbit.Nominal(o, tick)
			expect(t, "Nominal", place, err, nominalPlace(o, tick), api.OK)
			box, err := orbit.BoxAt(o, tick)
			expect(t, "BoxAt", box, err, boxOf(o, tick), api.OK)
		}
	}
	const far = api.MaxPlace
	great := orbitOf("g", 100000, state(0, far, -far, far, 99999), state(19999, -far, far, far-1, 100000), state(20000, far, far, far, 0))
	for _, tick := range []int{0, 1, 2, 4999, 10000, 19997, 19998, 19999, 20000} {
		place, err := orbit.Nominal(great, tick)
		expect(t, "Nominal of great numbers", place, err, nominalPlace(great, tick), api.OK)
		box, err := orbit.BoxAt(great, tick)
		expect(t, "BoxAt of great numbers", box, err, boxOf(great, tick), api.OK)
	}
}

// P2.2
func TestErrorsOfTicks(t *testing.T) {
	o := orbitOf("t", 0, state(5, 0, 0, 0, 0), state(9, 0, 0, 0, 0))
	far := wrongPlaces()[0]
	for _, tick := range []int{4, 10, 0, -5, math.MinInt, math.MaxInt} {
		place, err := orbit.Nominal(o, tick)
		expect(t, "Nominal", place, err, api.Place{}, api.ErrRange)
		box, err := orbit.BoxAt(o, tick)
		expect(t, "BoxAt", box, err, [3]api.Range{}, api.ErrRange)
		squares, err := orbit.SquareAt(o, tick, at(0, 0, 0))
		expect(t, "SquareAt", squares, err, api.Range{}, api.ErrRange)
		squares, err = orbit.SquareAt(o, tick, far)
		expect(t, "SquareAt, and a wrong place", squares, err, api.Range{}, api.ErrRange)
		distance, err := orbit.DistanceAt(o, tick, at(0, 0, 0))
		expect(t, "DistanceAt", distance, err, api.Range{}, api.ErrRange)
	}
}

// P2.2
func TestSpeedOf(t *testing.T) {
	o := orbitOf("v", 0, state(0, 0, 0, 0, 0), state(12, 8, -18, 0, 0), state(13, 8, -18, 7, 0), state(20000, 8, -18, 100000000, 0))
	for _, x := range []struct {
		o    api.Orbit
		arc  int
		want [3]api.Frac
	}{
		{sample(), 0, [3]api.Frac{{Num: 5, Den: 1}, {Num: 2, Den: 1}, {Num: 0, Den: 1}}},
		{o, 0, [3]api.Frac{{Num: 2, Den: 3}, {Num: -3, Den: 2}, {Num: 0, Den: 1}}},
		{o, 1, [3]api.Frac{{Num: 0, Den: 1}, {Num: 0, Den: 1}, {Num: 7, Den: 1}}},
		{o, 2, [3]api.Frac{{Num: 0, Den: 1}, {Num: 0, Den: 1}, {Num: 99999993, Den: 19987}}},
		{standing(0, 20000, 1, 2, 3), 0, [3]api.Frac{{Num: 0, Den: 1}, {Num: 0, Den: 1}, {Num: 0, Den: 1}}},
	} {
		got, err := orbit.SpeedOf(x.o, x.arc)
		expect(t, "SpeedOf", got, err, x.want, api.OK)
	}
	for _, arc := range []int{-1, 3, 4, math.MinInt, math.MaxInt} {
		got, err := orbit.SpeedOf(o, arc)
		expect(t, "SpeedOf no arc", got, err, [3]api.Frac{}, api.ErrMissing)
	}
}

// P2.2: against fractions of package big, which are in lowest terms.
func TestSpeedsByDefinition(t *testing.T) {
	numbers := source(3)
	for range 100 {
		o := numbers.orbit(1000, 0)
		for arc := range len(o.States) - 1 {
			a, b := o.States[arc], o.States[arc+1]
			var want [3]api.Frac
			for i := range want {
				speed := big.NewRat(int64(coordinates(b.At)[i]-coordinates(a.At)[i]), int64(b.Tick-a.Tick))
				want[i] = api.Frac{Num: int(speed.Num().Int64()), Den: int(speed.Denom().Int64())}
			}
			got, err := orbit.SpeedOf(o, arc)
			expect(t, "SpeedOf", got, err, want, api.OK)
		}
	}
}

// P2.2
func TestSideOf(t *testing.T) {
	const far = api.MaxPlace
	great := orbitOf("g", 0, state(0, -far, -far, 0, 0), state(1, far, far, 0, 0), state(2, far, far, 5, 0), state(3, far, -far, 5, 0))
	for _, x := range []struct {
		o     api.Orbit
		arc   int
		place api.Place
		want  int
	}{
		{sample(), 0, at(0, 10, 0), api.SideLeft},
		{sample(), 0, at(0, -1, 0), api.SideRight},
		{sample(), 0, at(5, 2, 9), api.SideUnder},
		{sample(), 0, at(100, 40, -9), api.SideUnder},
		{sample(), 0, at(-5, -2, 0), api.SideUnder},
		{sample(), 0, at(5, 3, 0), api.SideLeft},
		{sample(), 0, at(6, 2, 0), api.SideRight},
		{great, 0, at(-far, far, far), api.SideLeft},
		{great, 0, at(far, -far, far), api.SideRight},
		{great, 0, at(far-1, far, 0), api.SideLeft},
		{great, 0, at(0, 0, far), api.SideUnder},
		{great, 1, at(-far, far, 0), api.SideUnder},
		{great, 2, at(far-1, 0, 0), api.SideRight},
		{great, 2, at(far, 7, 0), api.SideUnder},
		{standing(0, 1, 0, 0, 0), 0, at(1, 2, 3), api.SideUnder},
		{orbitOf("n", 0, state(0, 0, 5, 0, 0), state(1, 0, 6, 0, 0)), 0, at(-1, 0, 0), api.SideLeft},
		{orbitOf("n", 0, state(0, 0, 5, 0, 0), state(1, 0, 4, 0, 0)), 0, at(-1, 0, 0), api.SideRight},
	} {
		got, err := orbit.SideOf(x.o, x.arc, x.place)
		expect(t, "SideOf", got, err, x.want, api.OK)
	}
	for _, arc := range []int{-1, 3, 4, math.MinInt, math.MaxInt} {
		got, err := orbit.SideOf(great, arc, wrongPlaces()[0])
		expect(t, "SideOf no arc", got, err, 0, api.ErrMissing)
	}
	for _, place := range wrongPlaces() {
		got, err := orbit.SideOf(great, 0, place)
		expect(t, "SideOf no place", got, err, 0, api.ErrRange)
	}
}
