package orbit_test

import (
	"math"
	"testing"

	"swath/api"
	"swath/orbit"
)

// P2.6
func TestAgree(t *testing.T) {
	middle := orbitOf("m", 0, state(0, 0, 0, 0, 0), state(2, 4, 0, 1, 0), state(4, 8, 0, 0, 0))
	for _, x := range []struct {
		what string
		a, b api.Orbit
		tick int
		want int
	}{
		{"an orbit and itself", sample(), sample(), 0, api.AnswerMaybe},
		{"an orbit without errors, at a state", middle, middle, 2, api.AnswerYes},
		{"an orbit without errors, at a point that is whole in X and Y alone", middle, middle, 1, api.AnswerMaybe},
		{"a whole point", standing(0, 9, 1, 2, 3), standing(5, 7, 1, 2, 3), 6, api.AnswerYes},
		{"a bend that does not count", orbitOf("b", 5, state(0, 0, 0, 0, 0), state(2, 0, 0, 0, 0)), standing(0, 2, 0, 0, 0), 2, api.AnswerYes},
		{"a bend that counts", orbitOf("b", 5, state(0, 0, 0, 0, 0), state(2, 0, 0, 0, 0)), standing(0, 2, 0, 0, 0), 1, api.AnswerMaybe},
		{"two points", standing(0, 1, 0, 0, 0), standing(0, 1, 0, 0, 1), 0, api.AnswerNo},
		{"boxes that touch in X", orbitOf("x", 0, state(0, 0, 0, 0, 3), state(1, 0, 0, 0, 3)), standing(0, 1, 3, -3, 0), 0, api.AnswerMaybe},
		{"boxes that do not meet in X", orbitOf("x", 0, state(0, 0, 0, 0, 3), state(1, 0, 0, 0, 3)), standing(0, 1, 4, 0, 0), 0, api.AnswerNo},
		{"boxes that do not meet in Y", orbitOf("x", 0, state(0, 0, 0, 0, 3), state(1, 0, 0, 0, 3)), standing(0, 1, 0, -4, 0), 1, api.AnswerNo},
		{"boxes that do not meet in Z", standing(0, 1, 0, 0, -4), orbitOf("x", 0, state(0, 0, 0, 0, 3), state(1, 0, 0, 0, 3)), 1, api.AnswerNo},
		{"a point in a box", standing(0, 1, 0, 0, 0), orbitOf("x", 0, state(0, 0, 0, 0, 3), state(1, 0, 0, 0, 3)), 1, api.AnswerMaybe},
	} {
		got, err := orbit.Agree(x.a, x.b, x.tick)
		expect(t, x.what, got, err, x.want, api.OK)
		got, err = orbit.Agree(x.b, x.a, x.tick)
		expect(t, x.what+", changed", got, err, x.want, api.OK)
	}
	for _, tick := range []int{-1, 4, 5, 9, 10, 11, math.MinInt, math.MaxInt} {
		got, err := orbit.Agree(standing(0, 10, 0, 0, 0), standing(6, 8, 0, 0, 0), tick)
		expect(t, "Agree at a tick that is none", got, err, 0, api.ErrRange)
		got, err = orbit.Agree(standing(6, 8, 0, 0, 0), standing(0, 10, 0, 0, 0), tick)
		expect(t, "Agree at a tick that is none", got, err, 0, api.ErrRange)
	}
}

func three() api.Orbit {
	return orbitOf("three", 7, state(10, 1, 2, 3, 4), state(20, 5, 6, 7, 8), state(30, 9, 10, 11, 12))
}

// P2.6
func TestCorrected(t *testing.T) {
	o := three()
	for _, x := range []struct {
		number int
		s      api.OrbitState
	}{
		{0, state(19, 0, 0, 0, 0)}, {0, state(0, -1, 0, 1, 100000)}, {1, state(20, 1, 1, 1, 1)}, {1, state(11, 0, 0, 0, 0)},
		{1, state(29, 0, 0, 0, 0)}, {2, state(20010, 0, 0, 0, 0)}, {2, state(21, 100000000, 0, 0, 0)}, {1, state(20, 5, 6, 7, 8)},
	} {
		want := three()
		want.States[x.number] = x.s
		got, err := orbit.Corrected(o, x.number, x.s)
		expect(t, "Corrected", got, err, want, api.OK)
		expect(t, "its argument", o, err, three(), api.OK)
		got.States[0].Error = -1
		got.States[2].Error = -1
		expect(t, "its argument once the result has changed", o, err, three(), api.OK)
	}
	wrong := state(-1, 0, 0, 0, 0)
	for _, x := range []struct {
		what   string
		number int
		s      api.OrbitState
		err    api.Errno
	}{
		{"a state before all", -1, wrong, api.ErrMissing},
		{"a state behind all", 3, wrong, api.ErrMissing},
		{"the least number", math.MinInt, o.States[0], api.ErrMissing},
		{"the greatest number", math.MaxInt, o.States[0], api.ErrMissing},
		{"a wrong tick", 1, wrong, api.ErrRange},
		{"a wrong place", 2, state(0, 0, -100000001, 0, 0), api.ErrRange},
		{"a wrong error", 0, state(25, 0, 0, 0, 100001), api.ErrRange},
		{"the tick before", 1, state(10, 0, 0, 0, 0), api.ErrOrder},
		{"the tick behind", 1, state(30, 0, 0, 0, 0), api.ErrOrder},
		{"the first state behind the second one", 0, state(20, 0, 0, 0, 0), api.ErrOrder},
		{"far behind", 2, state(20011, 0, 0, 0, 0), api.ErrLarge},
	} {
		got, err := orbit.Corrected(o, x.number, x.s)
		expect(t, x.what, got, err, api.Orbit{}, x.err)
	}
	late := orbitOf("late", 0, state(20000, 0, 0, 0, 0), state(20001, 0, 0, 0, 0), state(20002, 0, 0, 0, 0))
	got, err := orbit.Corrected(late, 0, state(1, 0, 0, 0, 0))
	expect(t, "the last state far behind the corrected first one", got, err, api.Orbit{}, api.ErrLarge)
	got, err = orbit.Corrected(late, 0, state(2, 0, 0, 0, 0))
	expect(t, "the last state not too far behind", len(got.States), err, 3, api.OK)
}

// P2.6
func TestWithout(t *testing.T) {
	o := three()
	for number := range 3 {
		want := three()
		want.States = append(want.States[:number], want.States[number+1:]...)
		got, err := orbit.Without(o, number)
		expect(t, "Without", got, err, want, api.OK)
		expect(t, "its argument", o, err, three(), api.OK)
		got.States[0].Error, got.States[1].Error = -1, -1
		expect(t, "its argument once the result has changed", o, err, three(), api.OK)
		got, err = orbit.Without(want, 0)
		expect(t, "Without one of two", got, err, api.Orbit{}, api.ErrShape)
	}
	for _, number := range []int{-1, 3, math.MinInt, math.MaxInt} {
		got, err := orbit.Without(o, number)
		expect(t, "Without a state that is missing", got, err, api.Orbit{}, api.ErrMissing)
	}
	got, err := orbit.Without(sample(), 2)
	expect(t, "Without a third state of two", got, err, api.Orbit{}, api.ErrMissing)
}

// P2.6
func TestTouched(t *testing.T) {
	other := orbitOf("q", 2, sample().States...)
	bent := orbitOf("p", 3, sample().States...)
	for _, x := range []struct {
		what string
		a, b api.Orbit
		want []api.Range
	}{
		{"another name", sample(), other, nil},
		{"another bend", sample(), bent, []api.Range{span(1, 9)}},
		{"a longer orbit", standing(2, 9, 0, 0, 0), standing(5, 7, 0, 0, 0), []api.Range{span(2, 4), span(8, 9)}},
		{"a shifted orbit", standing(2, 6, 0, 0, 0), standing(4, 9, 0, 0, 0), []api.Range{span(2, 3), span(7, 9)}},
		{"another place", standing(2, 6, 0, 0, 0), standing(4, 9, 0, 0, 1), []api.Range{span(2, 9)}},
		{"one behind the other", standing(2, 6, 0, 0, 0), standing(7, 9, 0, 0, 0), []api.Range{span(2, 9)}},
		{"a tick between both", standing(2, 6, 0, 0, 0), standing(8, 9, 0, 0, 0), []api.Range{span(2, 6), span(8, 9)}},
		{"far apart", standing(0, 1, 0, 0, 0), standing(999999999, 1000000000, 0, 0, 0), []api.Range{span(0, 1), span(999999999, 1000000000)}},
		{"the same last tick", standing(2, 6, 0, 0, 0), standing(6, 9, 0, 0, 0), []api.Range{span(2, 5), span(7, 9)}},
		{"a state more, on the line", standing(0, 9, 1, 2, 3), orbitOf("s", 0, state(0, 1, 2, 3, 0), state(4, 1, 2, 3, 0), state(9, 1, 2, 3, 0)), nil},
		{"a state more, and a bend", sample(), orbitOf("p", 2, state(0, 0, 0, 100, 1), state(5, 25, 10, 100, 2), state(10, 50, 20, 100, 3)), []api.Range{span(5, 5)}},
		// At 3 the heights are 100 and 100.3, each give or take 3.6: 96 to 104 both.
		{"boxes differ in Z alone", sample(), orbitOf("p", 2, state(0, 0, 0, 100, 1), state(10, 50, 20, 101, 3)), []api.Range{span(4, 10)}},
	} {
		got, err := orbit.Touched(x.a, x.b)
		expect(t, x.what, got, err, x.want, api.OK)
		got, err = orbit.Touched(x.b, x.a)
		expect(t, x.what+", changed", got, err, x.want, api.OK)
	}
}

// P2.6: against the definition.
func TestTouchedByDefinition(t *testing.T) {
	numbers := source(8)
	for i := range 150 {
		a, b := numbers.orbit(4, 2), numbers.orbit(4, 2)
		if i%2 == 0 {
			b = copyOf(a)
			b.States[numbers.below(len(b.States))].At = numbers.place(4)
		}
		var touched []int
		for tick := range 100 {
			one, other := isTick(a, tick), isTick(b, tick)
			if one != other || one && boxOf(a, tick) != boxOf(b, tick) {
				touched = append(touched, tick)
			}
		}
		got, err := orbit.Touched(a, b)
		expect(t, "Touched", got, err, rangesOf(touched), api.OK)
	}
}

func isTick(o api.Orbit, tick int) bool {
	return o.States[0].Tick <= tick && tick <= o.States[len(o.States)-1].Tick
}
