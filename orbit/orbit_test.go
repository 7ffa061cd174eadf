package orbit_test

import (
	"math"
	"strconv"
	"testing"

	"swath/api"
	"swath/orbit"
)

// P2.1
func TestCheckOrbit(t *testing.T) {
	const far, late, wrong = api.MaxPlace, api.MaxTick, api.MaxOrbitError
	for _, o := range []api.Orbit{
		sample(),
		orbitOf("a", 0, manyStates(2)...),
		orbitOf("Z-9-aA-0zz-9", 0, manyStates(40)...),
		orbitOf(letters(12), wrong, state(late-20000, far, -far, far, wrong), state(late, -far, far, -far, 0)),
		orbitOf("a--", 0, state(0, 0, 0, 0, 0), state(19999, 0, 0, 0, 0), state(20000, 0, 0, 0, 0)),
	} {
		number, err := orbit.CheckOrbit(o)
		expect(t, "CheckOrbit of "+o.Name, number, err, 0, api.OK)
	}
	for _, x := range orbitFaults() {
		number, err := orbit.CheckOrbit(x.orbit)
		expect(t, "CheckOrbit of "+x.what, number, err, x.number, x.err)
	}
}

// P2.1: the errors of the orbit come before all other ones, and nothing stands beside them.
func TestErrorsOfOrbits(t *testing.T) {
	good, place := sample(), at(math.MaxInt, 0, 0)
	for _, x := range orbitFaults() {
		t.Run(x.what, func(t *testing.T) {
			for _, call := range []struct {
				what string
				make func(o api.Orbit) (any, api.Errno)
				zero any
			}{
				{"Nominal", func(o api.Orbit) (any, api.Errno) { return result(orbit.Nominal(o, -1)) }, api.Place{}},
				{"BoxAt", func(o api.Orbit) (any, api.Errno) { return result(orbit.BoxAt(o, -1)) }, [3]api.Range{}},
				{"SpeedOf", func(o api.Orbit) (any, api.Errno) { return result(orbit.SpeedOf(o, -1)) }, [3]api.Frac{}},
				{"SquareAt", func(o api.Orbit) (any, api.Errno) { return result(orbit.SquareAt(o, -1, place)) }, api.Range{}},
				{"DistanceAt", func(o api.Orbit) (any, api.Errno) { return result(orbit.DistanceAt(o, -1, place)) }, api.Range{}},
				{"Nearest", func(o api.Orbit) (any, api.Errno) { return both(orbit.Nearest(o, place)) }, [2]any{0, 0}},
				{"MayBeNearest", func(o api.Orbit) (any, api.Errno) { return both(orbit.MayBeNearest(o, place)) }, [2]any{api.Range{}, 0}},
				{"CheckNearest", func(o api.Orbit) (any, api.Errno) {
					return result(orbit.CheckNearest(o, place, api.OrbitNearest{Ticks: span(2, 1), Witness: -1}))
				}, 0},
				{"SideOf", func(o api.Orbit) (any, api.Errno) { return result(orbit.SideOf(o, -1, place)) }, 0},
				{"Baseline", func(o api.Orbit) (any, api.Errno) {
					return result(orbit.Baseline(o, api.Orbit{Name: "a"}, api.OrbitBase{First: -1, Second: -1, Place: place}))
				}, [2]api.Range{}},
				{"Baseline, second", func(o api.Orbit) (any, api.Errno) {
					return result(orbit.Baseline(good, o, api.OrbitBase{First: -1, Second: -1, Place: place}))
				}, [2]api.Range{}},
				{"Passes", func(o api.Orbit) (any, api.Errno) { return result(orbit.Passes(o, place, -1)) }, []api.Range(nil)},
				{"Agree", func(o api.Orbit) (any, api.Errno) { return result(orbit.Agree(o, api.Orbit{Name: "a"}, -1)) }, 0},
				{"Agree, second", func(o api.Orbit) (any, api.Errno) { return result(orbit.Agree(good, o, -1)) }, 0},
				{"Corrected", func(o api.Orbit) (any, api.Errno) {
					return result(orbit.Corrected(o, -1, state(-1, 0, 0, 0, 0)))
				}, api.Orbit{}},
				{"Without", func(o api.Orbit) (any, api.Errno) { return result(orbit.Without(o, -1)) }, api.Orbit{}},
				{"Touched", func(o api.Orbit) (any, api.Errno) { return result(orbit.Touched(o, api.Orbit{Name: "a"})) }, []api.Range(nil)},
				{"Touched, second", func(o api.Orbit) (any, api.Errno) { return result(orbit.Touched(good, o)) }, []api.Range(nil)},
				{"Print", func(o api.Orbit) (any, api.Errno) { return result(orbit.Print(o)) }, ""},
			} {
				got, err := call.make(x.orbit)
				expect(t, call.what, got, err, call.zero, x.err)
			}
		})
	}
}

func result(value any, err api.Errno) (any, api.Errno) { return value, err }

func both(one, other any, err api.Errno) (any, api.Errno) { return [2]any{one, other}, err }

// P2.1
func TestFormatState(t *testing.T) {
	least, greatest := strconv.Itoa(math.MinInt), strconv.Itoa(math.MaxInt)
	for _, x := range []struct {
		s    api.OrbitState
		want string
	}{
		{api.OrbitState{}, "0 0 0 0 0"},
		{state(10, 50, 20, 100, 3), "10 50 20 100 3"},
		{state(1000000000, -100000000, 100000000, -1, 100000), "1000000000 -100000000 100000000 -1 100000"},
		{state(-5, 1, 2, 3, -4), "-5 1 2 3 -4"},
		{state(math.MinInt, math.MaxInt, 0, 0, math.MinInt), least + " " + greatest + " 0 0 " + least},
	} {
		expect(t, "FormatState", orbit.FormatState(x.s), api.OK, x.want, api.OK)
	}
}

// P2.1
func TestParseState(t *testing.T) {
	for _, x := range []struct {
		text string
		want api.OrbitState
		err  api.Errno
	}{
		{"10 50 20 100 3", state(10, 50, 20, 100, 3), api.OK},
		{"0 0 0 0 0", api.OrbitState{}, api.OK},
		{"1000000000 -100000000 100000000 -1 100000", state(1000000000, -100000000, 100000000, -1, 100000), api.OK},
		{"", api.OrbitState{}, api.ErrSyntax},
		{"1 2 3 4", api.OrbitState{}, api.ErrSyntax},
		{"1 2 3 4 5 6", api.OrbitState{}, api.ErrSyntax},
		{"1 2 3 4 5 ", api.OrbitState{}, api.ErrSyntax},
		{" 1 2 3 4 5", api.OrbitState{}, api.ErrSyntax},
		{"1  2 3 4 5", api.OrbitState{}, api.ErrSyntax},
		{"1 2 3  5", api.OrbitState{}, api.ErrSyntax},
		{"1\t2 3 4 5", api.OrbitState{}, api.ErrSyntax},
		{"1 2 3 4 5\n", api.OrbitState{}, api.ErrSyntax},
		{"1 2 3 4 5;", api.OrbitState{}, api.ErrSyntax},
		{"state 1 2 3 4 5", api.OrbitState{}, api.ErrSyntax},
		{"01 2 3 4 5", api.OrbitState{}, api.ErrSyntax},
		{"1 00 3 4 5", api.OrbitState{}, api.ErrSyntax},
		{"1 +2 3 4 5", api.OrbitState{}, api.ErrSyntax},
		{"1 -0 3 4 5", api.OrbitState{}, api.ErrSyntax},
		{"1 -02 3 4 5", api.OrbitState{}, api.ErrSyntax},
		{"1 - 3 4 5", api.OrbitState{}, api.ErrSyntax},
		{"1 --2 3 4 5", api.OrbitState{}, api.ErrSyntax},
		{"1 2.0 3 4 5", api.OrbitState{}, api.ErrSyntax},
		{"1 2 x 4 5", api.OrbitState{}, api.ErrSyntax},
		{"1 2 3 4 10000000000", api.OrbitState{}, api.ErrSyntax},
		{"1 2 3 4 -10000000000", api.OrbitState{}, api.ErrSyntax},
		{"1 2 3 4 \u0662", api.OrbitState{}, api.ErrSyntax},
		{"-1 2 3 4 x", api.OrbitState{}, api.ErrSyntax},
		{"-1 2 3 4 5", api.OrbitState{}, api.ErrRange},
		{"1000000001 2 3 4 5", api.OrbitState{}, api.ErrRange},
		{"9999999999 2 3 4 5", api.OrbitState{}, api.ErrRange},
		{"1 100000001 3 4 5", api.OrbitState{}, api.ErrRange},
		{"1 2 -9999999999 4 5", api.OrbitState{}, api.ErrRange},
		{"1 2 3 100000001 5", api.OrbitState{}, api.ErrRange},
		{"1 2 3 4 -1", api.OrbitState{}, api.ErrRange},
		{"1 2 3 4 100001", api.OrbitState{}, api.ErrRange},
	} {
		got, err := orbit.ParseState(x.text)
		expect(t, "ParseState of "+x.text, got, err, x.want, x.err)
	}
}

// P2.10
func TestParseStateUndoesFormatState(t *testing.T) {
	numbers := source(1)
	for range 200 {
		s := api.OrbitState{Tick: numbers.below(api.MaxTick), At: numbers.place(api.MaxPlace), Error: numbers.below(api.MaxOrbitError + 1)}
		got, err := orbit.ParseState(orbit.FormatState(s))
		expect(t, "ParseState of FormatState", got, err, s, api.OK)
	}
}
