package orbit_test

import (
	"math"
	"math/big"
	"testing"

	"swath/api"
	"swath/orbit"
)

// P2.5
func TestBaseline(t *testing.T) {
	const far, apart = api.MaxPlace, 1000000
	still := func(x, y, z int) api.Orbit { return standing(0, 4, x, y, z) }
	for _, x := range []struct {
		what          string
		a, b          api.Orbit
		first, second int
		place         api.Place
		along, across api.Range
	}{
		{"the example", sample(), still(30, 0, 140), 0, 0, at(0, 0, 0), span(-40, -40), span(30, 30)},
		{"ticks of their own", sample(), still(80, 20, 140), 10, 3, at(50, 20, 0), span(-40, -40), span(30, 30)},
		{"nominal places", orbitOf("n", 9, state(0, 0, 0, 0, 7), state(2, 1, 0, 0, 7)), still(31, 0, 40), 1, 4, at(1, 0, 9), span(40, 40), span(30, 30)},
		{"none", still(1, 2, 3), still(1, 2, 3), 0, 4, at(0, 0, 0), span(0, 0), span(0, 0)},
		// D is 10, its root between 1 and 2: 10 / 2 to 10 / 1.
		{"a rough root", still(0, 0, 0), still(5, 5, 0), 0, 0, at(1, 1, 0), span(5, 10), span(0, 5)},
		// D is -10: -10 / 1 to -10 / 2.
		{"a rough root, away", still(0, 0, 0), still(-5, -5, 0), 0, 0, at(1, 1, 0), span(-10, -5), span(0, 5)},
		// D is 7, the root of 2 * 2 + 2 * 2 + 1 is 3: 2 to 3, b is 9 + 1 = 10: the roots of 1 and 6.
		{"parts of a decimetre", still(0, 0, 0), still(3, 0, 1), 0, 0, at(2, 2, 1), span(2, 3), span(1, 3)},
		{"parts of a decimetre, away", still(0, 0, 0), still(-3, 0, -1), 0, 0, at(2, 2, 1), span(-3, -2), span(1, 3)},
		// D is 1, the root of 25 is 5: 0 to 1.
		{"from 0 on", still(0, 0, 0), still(0, 1, -1), 0, 0, at(0, 4, 3), span(0, 1), span(1, 2)},
		{"up to 0", still(0, 0, 0), still(0, -1, 1), 0, 0, at(0, 4, 3), span(-1, 0), span(1, 2)},
		{"across alone", still(0, 0, 0), still(2, 0, 0), 0, 0, at(0, 5, 5), span(0, 0), span(2, 2)},
		{"the greatest one", still(0, 0, 0), still(apart, -apart, apart), 0, 0, at(0, 0, 1), span(apart, apart), span(1414213, 1414214)},
		{"the greatest one, far away", still(far, far, far), still(far-apart, far-apart, far-apart), 0, 0, at(-far, -far, -far), span(1732050, 1732051), span(0, 1673)},
	} {
		got, err := orbit.Baseline(x.a, x.b, api.OrbitBase{First: x.first, Second: x.second, Place: x.place})
		expect(t, x.what, got, err, [2]api.Range{x.along, x.across}, api.OK)
	}
}

// alongOf and acrossOf follow the chapter with fractions.
func alongOf(d, low, high int) api.Range {
	one, other := big.NewRat(int64(d), int64(low)), big.NewRat(int64(d), int64(high))
	if one.Cmp(other) > 0 {
		one, other = other, one
	}
	return span(down(one), up(other))
}

func acrossOf(b int, along api.Range) api.Range {
	greatest := max(along.Lo, -along.Lo, along.Hi, -along.Hi)
	least := min(max(along.Lo, -along.Lo), max(along.Hi, -along.Hi))
	if along.Lo < 0 && along.Hi > 0 {
		least = 0
	}
	return span(rootDown(max(0, b-greatest*greatest)), rootUp(max(0, b-least*least)))
}

// P2.5: against the definition.
func TestBaselineByDefinition(t *testing.T) {
	numbers := source(7)
	for i := range 300 {
		size := []int{4, 30, 1000, 300000}[i%4]
		a, b, place := numbers.orbit(size, 3), numbers.orbit(size, 3), numbers.place(size)
		x := api.OrbitBase{First: a.States[0].Tick + 1, Second: b.States[1].Tick, Place: place}
		p, q := nominalPlace(a, x.First), nominalPlace(b, x.Second)
		d := (q.X-p.X)*(place.X-p.X) + (q.Y-p.Y)*(place.Y-p.Y) + (q.Z-p.Z)*(place.Z-p.Z)
		sight := square(place, p)
		if sight == 0 {
			continue
		}
		along := alongOf(d, rootDown(sight), rootUp(sight))
		got, err := orbit.Baseline(a, b, x)
		expect(t, "Baseline", got, err, [2]api.Range{along, acrossOf(square(p, q), along)}, api.OK)
	}
}

// P2.5
func TestErrorsOfBaselines(t *testing.T) {
	a, b := standing(5, 9, 0, 0, 0), standing(15, 19, 1000001, 0, 0)
	near := standing(15, 19, 0, -1000000, 0)
	far := wrongPlaces()[0]
	for _, x := range []struct {
		what          string
		b             api.Orbit
		first, second int
		place         api.Place
		err           api.Errno
	}{
		{"a tick before the first orbit", near, 4, 14, far, api.ErrRange},
		{"a tick behind the first orbit", near, 10, 15, at(1, 0, 0), api.ErrRange},
		{"a tick of the second orbit", near, 15, 15, at(1, 0, 0), api.ErrRange},
		{"a tick before the second orbit", near, 5, 14, at(1, 0, 0), api.ErrRange},
		{"a tick behind the second orbit", near, 5, 20, at(1, 0, 0), api.ErrRange},
		{"a tick of the first orbit", near, 5, 5, at(1, 0, 0), api.ErrRange},
		{"the greatest tick", near, math.MaxInt, 15, at(1, 0, 0), api.ErrRange},
		{"a place that is none", b, 5, 15, far, api.ErrRange},
		{"far apart, and no sight", b, 5, 15, at(0, 0, 0), api.ErrLarge},
		{"far apart in Y", standing(15, 19, 0, -1000001, 0), 5, 15, at(1, 0, 0), api.ErrLarge},
		{"far apart in Z", standing(15, 19, 0, 0, 1000001), 5, 15, at(1, 0, 0), api.ErrLarge},
		{"far apart in X", standing(15, 19, -1000001, 0, 0), 5, 15, at(1, 0, 0), api.ErrLarge},
		{"no sight", near, 5, 15, at(0, 0, 0), api.ErrZero},
		{"no sight, no baseline", standing(5, 9, 0, 0, 0), 5, 9, at(0, 0, 0), api.ErrZero},
	} {
		got, err := orbit.Baseline(a, x.b, api.OrbitBase{First: x.first, Second: x.second, Place: x.place})
		expect(t, x.what, got, err, [2]api.Range{}, x.err)
	}
	for _, place := range wrongPlaces() {
		got, err := orbit.Baseline(a, near, api.OrbitBase{First: 5, Second: 15, Place: place})
		expect(t, "Baseline of no place", got, err, [2]api.Range{}, api.ErrRange)
	}
}
