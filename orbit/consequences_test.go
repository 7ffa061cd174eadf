package orbit_test

import (
	"testing"

	"swath/api"
	"swath/orbit"
)

// P2.8
func TestNominalPlacesLieInBoxes(t *testing.T) {
	numbers := source(10)
	for range 60 {
		o, seen := numbers.orbit(25, 3), numbers.place(25)
		for _, tick := range ticksOf(o) {
			place, _ := orbit.Nominal(o, tick)
			box, err := orbit.BoxAt(o, tick)
			expect(t, "the nominal place lies in its box", isIn(box, place), err, true, api.OK)
			distance, err := orbit.DistanceAt(o, tick, seen)
			far := square(place, seen)
			expect(t, "its distance lies in DistanceAt", distance.Lo*distance.Lo <= far && far <= distance.Hi*distance.Hi, err, true, api.OK)
		}
	}
}

func isIn(box [3]api.Range, place api.Place) bool {
	for i, x := range coordinates(place) {
		if x < box[i].Lo || x > box[i].Hi {
			return false
		}
	}
	return true
}

// P2.8
func TestGreaterErrorsGiveGreaterBoxes(t *testing.T) {
	numbers := source(11)
	for range 60 {
		o := numbers.orbit(25, 3)
		wider, bent := copyOf(o), copyOf(o)
		for i := range wider.States {
			wider.States[i].Error += numbers.below(3)
		}
		bent.Bend++
		for _, tick := range ticksOf(o) {
			box, err := orbit.BoxAt(o, tick)
			for _, greater := range []api.Orbit{wider, bent} {
				around, _ := orbit.BoxAt(greater, tick)
				low, high := at(box[0].Lo, box[1].Lo, box[2].Lo), at(box[0].Hi, box[1].Hi, box[2].Hi)
				expect(t, "a box lies in a greater one", isIn(around, low) && isIn(around, high), err, true, api.OK)
			}
		}
	}
}

// P2.9
func TestNearestTicksAreAccepted(t *testing.T) {
	numbers := source(12)
	for range 100 {
		o, place := numbers.orbit(15, 3), numbers.place(15)
		ticks, witness, err := orbit.MayBeNearest(o, place)
		expect(t, "MayBeNearest", true, err, true, api.OK)
		count, err := orbit.CheckNearest(o, place, api.OrbitNearest{Ticks: ticks, Witness: witness})
		expect(t, "CheckNearest of MayBeNearest", count, err, ticks.Hi-ticks.Lo+1, api.OK)
		nearest, _, err := orbit.Nearest(o, place)
		expect(t, "Nearest lies in MayBeNearest", ticks.Lo <= nearest && nearest <= ticks.Hi, err, true, api.OK)
		// No smaller range is accepted.
		if ticks.Lo < ticks.Hi {
			for _, less := range []api.Range{span(ticks.Lo+1, ticks.Hi), span(ticks.Lo, ticks.Hi-1)} {
				count, err := orbit.CheckNearest(o, place, api.OrbitNearest{Ticks: less, Witness: witness})
				expect(t, "CheckNearest of less", count, err, 0, api.ErrProof)
			}
		}
	}
}

// P2.9: whatever points of the boxes the satellite is at.
func TestNearestTicksOfTrueFlights(t *testing.T) {
	numbers := source(13)
	for range 60 {
		o, place := numbers.orbit(15, 2), numbers.place(15)
		ticks, _, _ := orbit.MayBeNearest(o, place)
		for range 20 {
			nearest, least := -1, 0
			for _, tick := range ticksOf(o) {
				box, _ := orbit.BoxAt(o, tick)
				is := at(numbers.from(box[0].Lo, box[0].Hi), numbers.from(box[1].Lo, box[1].Hi), numbers.from(box[2].Lo, box[2].Hi))
				if far := square(is, place); nearest < 0 || far < least {
					nearest, least = tick, far
				}
			}
			if nearest < ticks.Lo || nearest > ticks.Hi {
				t.Errorf("%v from %v: nearest at %d, not in %v", o, place, nearest, ticks)
			}
		}
	}
}

// P2.10
func TestTouchedOfCorrections(t *testing.T) {
	numbers := source(14)
	for range 100 {
		o := numbers.orbit(15, 3)
		same, err := orbit.Touched(o, o)
		expect(t, "Touched of an orbit and itself", same, err, nil, api.OK)
		number := numbers.below(len(o.States))
		s := api.OrbitState{Tick: o.States[number].Tick, At: numbers.place(15), Error: 5}
		corrected, err := orbit.Corrected(o, number, s)
		expect(t, "Corrected", corrected.States[number], err, s, api.OK)
		touched, err := orbit.Touched(o, corrected)
		expect(t, "Touched", len(touched) > 0, err, true, api.OK)
		low := o.States[max(number-1, 0)].Tick
		high := o.States[min(number+1, len(o.States)-1)].Tick
		for _, ticks := range touched {
			if ticks.Lo < low || ticks.Hi > high {
				t.Errorf("%v, the state %d is %v: touched %v", o, number, s, touched)
			}
		}
		back, err := orbit.Touched(corrected, o)
		expect(t, "Touched, changed", back, err, touched, api.OK)
	}
}

// R3
func TestArgumentsStay(t *testing.T) {
	o, other := three(), sample()
	place := at(1, 2, 3)
	for range 2 {
		orbit.MayBeNearest(o, place)
		passes, err := orbit.Passes(o, at(5, 6, 7), 3)
		expect(t, "Passes", passes, err, []api.Range{span(17, 23)}, api.OK)
		passes[0].Lo = -1
		touched, err := orbit.Touched(o, other)
		expect(t, "Touched", touched, err, []api.Range{span(0, 30)}, api.OK)
		touched[0].Lo = -1
		parsed, _, err := orbit.Parse(sampleText)
		expect(t, "Parse", parsed, err, sample(), api.OK)
		parsed.States[0].Tick = -1
	}
	expect(t, "the first orbit", o, api.OK, three(), api.OK)
	expect(t, "the second orbit", other, api.OK, sample(), api.OK)
}
