package orbit_test

import (
	"math"
	"math/big"
	"testing"

	"swath/api"
	"swath/orbit"
)

// P2.3
func TestDistances(t *testing.T) {
	const far = api.MaxPlace
	great := orbitOf("g", 100000, state(0, far, far, far, 100000), state(2, far, far, far, 100000))
	for _, x := range []struct {
		o                 api.Orbit
		tick              int
		place             api.Place
		squares, distance api.Range
	}{
		{sample(), 3, at(15, 6, 0), span(9216, 10848), span(96, 105)},
		{sample(), 3, at(15, 6, 100), span(0, 48), span(0, 7)},
		{sample(), 3, at(11, 2, 96), span(0, 192), span(0, 14)},
		{sample(), 3, at(10, 2, 96), span(1, 81+64+64), span(1, 15)},
		{sample(), 3, at(22, 13, 107), span(27, 121+121+121), span(5, 20)},
		{sample(), 3, at(8, 0, 90), span(9+4+36, 121+100+196), span(7, 21)},
		{standing(0, 1, 3, 4, 0), 0, at(0, 0, 0), span(25, 25), span(5, 5)},
		{standing(0, 1, 1, 1, 0), 0, at(0, 0, 0), span(2, 2), span(1, 2)},
		{standing(0, 1, 1, 1, 0), 0, at(1, 1, 0), span(0, 0), span(0, 0)},
		{great, 1, at(-far, -far, -far), span(3*199800000*199800000, 3*200200000*200200000), span(346063751, 346756572)},
		{great, 0, at(-far, -far, -far), span(3*199900000*199900000, 3*200100000*200100000), span(346236956, 346583367)},
	} {
		squares, err := orbit.SquareAt(x.o, x.tick, x.place)
		expect(t, "SquareAt", squares, err, x.squares, api.OK)
		distance, err := orbit.DistanceAt(x.o, x.tick, x.place)
		expect(t, "DistanceAt", distance, err, x.distance, api.OK)
	}
	for _, place := range wrongPlaces() {
		squares, err := orbit.SquareAt(great, 0, place)
		expect(t, "SquareAt no place", squares, err, api.Range{}, api.ErrRange)
		distance, err := orbit.DistanceAt(great, 0, place)
		expect(t, "DistanceAt no place", distance, err, api.Range{}, api.ErrRange)
	}
}

// rootDown is the root of package big.
func rootDown(n int) int {
	return int(new(big.Int).Sqrt(big.NewInt(int64(n))).Int64())
}

func rootUp(n int) int {
	if root := rootDown(n); root*root == n {
		return root
	}
	return rootDown(n) + 1
}

// P2.3: against the definitions.
func TestDistancesByDefinition(t *testing.T) {
	numbers := source(4)
	for i := range 60 {
		size, wrong := 20, 6
		if i%2 == 1 {
			size, wrong = api.MaxPlace, api.MaxOrbitError
		}
		o := numbers.orbit(size, wrong)
		for _, tick := range ticksOf(o) {
			place := numbers.place(size)
			want := squaresOf(boxOf(o, tick), place)
			squares, err := orbit.SquareAt(o, tick, place)
			expect(t, "SquareAt", squares, err, want, api.OK)
			distance, err := orbit.DistanceAt(o, tick, place)
			expect(t, "DistanceAt", distance, err, span(rootDown(want.Lo), rootUp(want.Hi)), api.OK)
		}
	}
}

// P2.3: roots of squares and of their neighbours, as great as they may be.
func TestRootsOfGreatSquares(t *testing.T) {
	for _, x := range []int{1, 2, 3, 1000, 94906265, 94906266, 94906267, 199999999, 200000000} {
		for _, side := range []int{0, 1} {
			o := standing(0, 1, -api.MaxPlace, 0, side)
			got, err := orbit.DistanceAt(o, 0, at(x-api.MaxPlace, 0, 0))
			expect(t, "DistanceAt", got, err, span(x, x+side), api.OK)
		}
	}
}

// P2.4
func TestNearest(t *testing.T) {
	tick, square, err := orbit.Nearest(sample(), at(30, 12, 0))
	expect(t, "Nearest", [2]int{tick, square}, err, [2]int{6, 10000}, api.OK)
	const far = api.MaxPlace
	for _, x := range []struct {
		what  string
		o     api.Orbit
		place api.Place
		want  [2]int
	}{
		{"the first of many", standing(7, 20007, 1, 2, 3), at(0, 0, 0), [2]int{7, 14}},
		{"the first of two", orbitOf("b", 0, state(0, -9, 0, 0, 0), state(5, 0, 0, 0, 0), state(9, -9, 0, 0, 0), state(12, 0, 0, 0, 0)), at(0, 0, 0), [2]int{5, 0}},
		{"the last tick", sample(), at(5000, 2000, 100), [2]int{10, 4950*4950 + 1980*1980}},
		// The exact line is nearest at 2, but 1 is rounded to the same place.
		{"rounded places", orbitOf("r", 0, state(0, 0, 0, 0, 0), state(8, 4, 0, 0, 0)), at(1, 0, 0), [2]int{1, 0}},
		{"the farthest place", standing(0, 1, far, far, far), at(-far, -far, -far), [2]int{0, 12 * far * far}},
		{"errors do not count", orbitOf("e", 0, state(0, 10, 0, 0, 100), state(1, 9, 0, 0, 0)), at(0, 0, 0), [2]int{1, 81}},
	} {
		tick, square, err := orbit.Nearest(x.o, x.place)
		expect(t, x.what, [2]int{tick, square}, err, x.want, api.OK)
	}
	for _, place := range wrongPlaces() {
		tick, square, err := orbit.Nearest(sample(), place)
		expect(t, "Nearest to no place", [2]int{tick, square}, err, [2]int{}, api.ErrRange)
	}
}

// P2.4
func TestMayBeNearest(t *testing.T) {
	for _, x := range []struct {
		what    string
		o       api.Orbit
		place   api.Place
		ticks   api.Range
		witness int
	}{
		// The box at 0 reaches to 1, which is as far away as the point at 2.
		{"as near as can be", orbitOf("e", 0, state(0, 2, 0, 0, 1), state(1, 5, 0, 0, 0), state(2, 1, 0, 0, 0)), at(0, 0, 0), span(0, 2), 2},
		{"a little too far", orbitOf("e", 0, state(0, 3, 0, 0, 1), state(1, 5, 0, 0, 0), state(2, 1, 0, 0, 0)), at(0, 0, 0), span(2, 2), 2},
		{"all", standing(4, 20004, 1, 1, 1), at(0, 0, 0), span(4, 20004), 4},
		{"the first witness", orbitOf("w", 0, state(0, 9, 0, 0, 0), state(1, 3, 0, 0, 0), state(2, 9, 0, 0, 0), state(3, -3, 0, 0, 0)), at(0, 0, 0), span(1, 3), 1},
		{"a witness outside of the nearest box", orbitOf("w", 0, state(0, 1, 0, 0, 9), state(1, 6, 0, 0, 0)), at(0, 0, 0), span(0, 1), 1},
	} {
		ticks, witness, err := orbit.MayBeNearest(x.o, x.place)
		expect(t, x.what, ticks, err, x.ticks, api.OK)
		expect(t, x.what+": the witness", witness, err, x.witness, api.OK)
	}
	for _, place := range wrongPlaces() {
		ticks, witness, err := orbit.MayBeNearest(sample(), place)
		expect(t, "MayBeNearest to no place", ticks, err, api.Range{}, api.ErrRange)
		expect(t, "its witness", witness, err, 0, api.ErrRange)
	}
}

// P2.4: against the definitions.
func TestNearestByDefinition(t *testing.T) {
	numbers := source(5)
	for range 150 {
		o, place := numbers.orbit(12, 3), numbers.place(12)
		ticks := ticksOf(o)
		nearest, witness, most := ticks[0], ticks[0], math.MaxInt
		for _, tick := range ticks {
			if square(nominalPlace(o, tick), place) < square(nominalPlace(o, nearest), place) {
				nearest = tick
			}
			if far := squaresOf(boxOf(o, tick), place).Hi; far < most {
				witness, most = tick, far
			}
		}
		var may []int
		for _, tick := range ticks {
			if squaresOf(boxOf(o, tick), place).Lo <= most {
				may = append(may, tick)
			}
		}
		tick, least, err := orbit.Nearest(o, place)
		expect(t, "Nearest", [2]int{tick, least}, err, [2]int{nearest, square(nominalPlace(o, nearest), place)}, api.OK)
		got, gotWitness, err := orbit.MayBeNearest(o, place)
		expect(t, "MayBeNearest", got, err, span(may[0], may[len(may)-1]), api.OK)
		expect(t, "the witness", gotWitness, err, witness, api.OK)
	}
}

// P2.4
func TestCheckNearest(t *testing.T) {
	o := orbitOf("c", 0, state(5, 9, 0, 0, 1), state(6, 4, 0, 0, 1), state(7, 3, 0, 0, 0), state(8, 9, 0, 0, 0))
	far := wrongPlaces()[0]
	for _, x := range []struct {
		what    string
		place   api.Place
		ticks   api.Range
		witness int
		want    int
		err     api.Errno
	}{
		{"the least range", at(0, 0, 0), span(6, 7), 7, 2, api.OK},
		{"all", at(0, 0, 0), span(5, 8), 7, 4, api.OK},
		{"a witness that proves less", at(0, 0, 0), span(5, 7), 6, 3, api.OK},
		{"a witness that proves nothing", at(0, 0, 0), span(5, 8), 8, 4, api.OK},
		{"a witness outside of all", at(0, 0, 0), span(6, 6), 7, 0, api.ErrProof},
		{"a tick as near as the witness", at(0, 0, 0), span(7, 7), 7, 0, api.ErrProof},
		{"a tick behind", at(0, 0, 0), span(5, 6), 7, 0, api.ErrProof},
		{"the witness is too far", at(0, 0, 0), span(6, 7), 8, 0, api.ErrProof},
		{"one tick", at(9, 0, 0), span(8, 8), 8, 0, api.ErrProof},
		{"ticks that are none, below", at(0, 0, 0), span(4, 7), 7, 0, api.ErrRange},
		{"ticks that are none, above", at(0, 0, 0), span(6, 9), 7, 0, api.ErrRange},
		{"the first tick is behind all", at(0, 0, 0), span(9, 8), 7, 0, api.ErrRange},
		{"the last tick is before all", at(0, 0, 0), span(6, 4), 7, 0, api.ErrRange},
		{"a witness that is none", at(0, 0, 0), span(7, 6), 9, 0, api.ErrRange},
		{"the least witness", at(0, 0, 0), span(6, 7), math.MinInt, 0, api.ErrRange},
		{"a wrong order", at(0, 0, 0), span(7, 6), 7, 0, api.ErrOrder},
		{"no place", far, span(7, 6), 7, 0, api.ErrRange},
	} {
		got, err := orbit.CheckNearest(o, x.place, api.OrbitNearest{Ticks: x.ticks, Witness: x.witness})
		expect(t, x.what, got, err, x.want, x.err)
	}
	sure := standing(0, 20000, 0, 0, 0)
	got, err := orbit.CheckNearest(sure, at(0, 0, 0), api.OrbitNearest{Ticks: span(0, 20000), Witness: 3})
	expect(t, "a long orbit", got, err, 20001, api.OK)
	for _, place := range wrongPlaces() {
		got, err := orbit.CheckNearest(o, place, api.OrbitNearest{Ticks: span(5, 8), Witness: 7})
		expect(t, "CheckNearest of no place", got, err, 0, api.ErrRange)
	}
}

// P2.5
func TestPasses(t *testing.T) {
	swinging := orbitOf("w", 50, state(0, 0, 0, 0, 9), state(4, 8, 0, 0, 9), state(8, 0, 0, 0, 9), state(12, 8, 0, 0, 9))
	for _, x := range []struct {
		o     api.Orbit
		place api.Place
		most  int
		want  []api.Range
	}{
		{sample(), at(30, 12, 0), 100, []api.Range{span(6, 6)}},
		{sample(), at(30, 12, 0), 101, []api.Range{span(4, 8)}},
		{sample(), at(30, 12, 0), 99, nil},
		{swinging, at(0, 0, 0), 0, []api.Range{span(0, 0), span(8, 8)}},
		{swinging, at(0, 0, 0), 2, []api.Range{span(0, 1), span(7, 9)}},
		{swinging, at(0, 0, 0), 8, []api.Range{span(0, 12)}},
		{swinging, at(8, 0, 0), 3, []api.Range{span(3, 5), span(11, 12)}},
		{standing(0, 20000, 0, 0, api.MaxPlace), at(0, 0, 0), api.MaxPlace, []api.Range{span(0, 20000)}},
		{standing(0, 20000, 0, 1, api.MaxPlace), at(0, 0, 0), api.MaxPlace, nil},
	} {
		got, err := orbit.Passes(x.o, x.place, x.most)
		expect(t, "Passes", got, err, x.want, api.OK)
	}
	for _, most := range []int{-1, api.MaxPlace + 1, math.MinInt, math.MaxInt} {
		got, err := orbit.Passes(sample(), at(0, 0, 0), most)
		expect(t, "Passes of a wrong distance", got, err, nil, api.ErrRange)
	}
	for _, place := range wrongPlaces() {
		got, err := orbit.Passes(sample(), place, 5)
		expect(t, "Passes of no place", got, err, nil, api.ErrRange)
	}
}

// P2.5: against the definition.
func TestPassesByDefinition(t *testing.T) {
	numbers := source(6)
	for range 100 {
		o, place, most := numbers.orbit(20, 3), numbers.place(20), numbers.below(30)
		var near []int
		for _, tick := range ticksOf(o) {
			if square(nominalPlace(o, tick), place) <= most*most {
				near = append(near, tick)
			}
		}
		got, err := orbit.Passes(o, place, most)
		expect(t, "Passes", got, err, rangesOf(near), api.OK)
	}
}
