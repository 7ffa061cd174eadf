package fringe_test

import (
	"math"
	"testing"

	"swath/api"
	"swath/fringe"
)

// P4.3
func TestModelPhases(t *testing.T) {
	for _, x := range []struct {
		what string
		x    api.FringeModel
		h    api.FloatMap
		want api.PhaseMap
	}{
		{"the example", model(1500, 0, 1000, 500), floats(1, 2, 0, 3), phases(1, 2, 2, 4)},
		{"nothing", model(0, 0, 0, 0), floats(2, 1, 5, -5), phases(2, 1, 0, 0)},
		{"rows and columns", model(0, 1000, 10000, 0), floats(2, 3, 9, 9, 9, 9, 9, 9), phases(2, 3, 0, 10, 20, 1, 11, 21)},
		{"a base", model(-7000, 0, 0, 0), floats(1, 2, 1, 2), phases(1, 2, -7, -7)},
		{"heights", model(0, 0, 0, -1500), floats(1, 4, 2, -2, 0, float32(minusZero)), phases(1, 4, -3, 3, 0, 0)},
		{"not wrapped", model(5000000, 0, 0, 1000), floats(1, 2, 0, -20000), phases(1, 2, 5000, -15000)},
		{"just 10^8", model(499, 0, 0, 1000000), floats(1, 1, 100000), phases(1, 1, 100000000)},
		{"just -10^8", model(-500, 0, 0, 1000000), floats(1, 1, -100000), phases(1, 1, -100000000)},
		{"the greatest numbers", model(100000000, 100000000, -100000000, -100000000), floats(2, 2, 0, 1, -1, 0), phases(2, 2, 100000, -100000, 300000, 100000)},
	} {
		got, err := fringe.ModelPhases(x.x, x.h)
		expect(t, x.what, got, err, x.want, api.OK)
	}
}

// P4.3: halves are rounded up.
func TestModelPhasesAreRounded(t *testing.T) {
	for _, x := range [][2]int{
		{499, 0}, {500, 1}, {501, 1}, {999, 1}, {1000, 1}, {1499, 1}, {1500, 2},
		{-499, 0}, {-500, 0}, {-501, -1}, {-999, -1}, {-1000, -1}, {-1499, -1}, {-1500, -1}, {-1501, -2},
		{100000000, 100000}, {-100000000, -100000}, {99999499, 99999}, {99999500, 100000}, {-99999500, -99999}, {-99999501, -100000},
	} {
		got, err := fringe.ModelPhases(model(x[0], 0, 0, 0), floats(1, 1, 0))
		expect(t, "ModelPhases", got, err, phases(1, 1, x[1]), api.OK)
	}
}

// P4.3
func TestModelPhasesByDefinition(t *testing.T) {
	numbers := source(7)
	for range 20 {
		h := numbers.floats(numbers.from(1, 64), numbers.from(1, 64), 5000)
		x := model(numbers.from(-99999, 99999), numbers.from(-9999, 9999), numbers.from(-9999, 9999), numbers.from(-9999, 9999))
		before := copyOfFloats(h)
		want := phases(h.Rows, h.Columns)
		for i, height := range h.Data {
			units := x.Base + i/h.Columns*x.PerRow + i%h.Columns*x.PerColumn + int(height)*x.PerHeight
			// The sum is a multiple of 1 / 1000, so that a double has its half at its right side.
			want.Phases = append(want.Phases, int(math.Floor(float64(2*units+1000)/2000)))
		}
		got, err := fringe.ModelPhases(x, h)
		expect(t, "ModelPhases", got, err, want, api.OK)
		expect(t, "the heights behind it", h, api.OK, before, api.OK)
	}
}

// wrongModels are models out of range, each by one number.
func wrongModels() []api.FringeModel {
	var l []api.FringeModel
	for _, n := range []int{100000001, -100000001, math.MaxInt, math.MinInt} {
		l = append(l, model(n, 0, 0, 0), model(0, n, 0, 0), model(0, 0, n, 0), model(0, 0, 0, n))
	}
	return l
}

// P4.3
func TestErrorsOfModels(t *testing.T) {
	good := model(1, 2, 3, 4)
	for _, x := range wrongModels() {
		got, err := fringe.ModelPhases(x, floats(1, 1, 0.5))
		expect(t, "a wrong model", got, err, api.PhaseMap{}, api.ErrRange)
		got, err = fringe.Flattened(phases(1, 1, 0), x, floats(1, 1, 0.5))
		expect(t, "Flattened by a wrong model", got, err, api.PhaseMap{}, api.ErrRange)
	}
	for _, x := range floatFaults() {
		got, err := fringe.ModelPhases(good, x.h)
		expect(t, "heights with "+x.what, got, err, api.PhaseMap{}, x.err)
		got, err = fringe.Flattened(phases(1, 1, 0), good, x.h)
		expect(t, "Flattened with heights with "+x.what, got, err, api.PhaseMap{}, x.err)
	}
	for _, x := range []struct {
		what string
		x    api.FringeModel
		h    api.FloatMap
	}{
		{"10^8 and 1", model(500, 0, 0, 1000000), floats(1, 1, 100000)},
		{"less than -10^8", model(-501, 0, 0, 1000000), floats(1, 1, -100000)},
		{"a great phase behind a small one", model(0, 0, 0, 100000000), floats(1, 3, 0, 1000, 1001)},
		{"the greatest one", model(100000000, 100000000, 100000000, 100000000), floats(1, 1, 100000)},
	} {
		got, err := fringe.ModelPhases(x.x, x.h)
		expect(t, x.what, got, err, api.PhaseMap{}, api.ErrLarge)
		got, err = fringe.Flattened(phases(2, 2, 0, 0, 0, 0), x.x, x.h)
		expect(t, "Flattened by "+x.what, got, err, api.PhaseMap{}, api.ErrLarge)
	}
}

// P4.3
func TestFlattened(t *testing.T) {
	x := model(1500, 0, 1000, 500)
	for _, c := range []struct {
		what string
		m    api.PhaseMap
		x    api.FringeModel
		h    api.FloatMap
		want api.PhaseMap
		err  api.Errno
	}{
		{"the example", phases(1, 2, 10, 10), x, floats(1, 2, 0, 3), phases(1, 2, 8, 6), api.OK},
		{"void ones", phases(1, 2, void, 10), x, floats(1, 2, 0, 3), phases(1, 2, void, 6), api.OK},
		{"turns", phases(2, 1, -2047, 100000000), model(2000, 0, 0, 0), floats(2, 1, 0, 0), phases(2, 1, 2047, 254), api.OK},
		{"a great model", phases(1, 1, 0), model(499, 0, 0, 1000000), floats(1, 1, 100000), phases(1, 1, -256), api.OK},
		{"a great model the other way", phases(1, 1, 100000000), model(0, 0, 0, 1000000), floats(1, 1, -100000), phases(1, 1, 512), api.OK},
		{"more heights", phases(1, 2, 1, 2), x, floats(1, 3, 0, 0, 0), api.PhaseMap{}, api.ErrClash},
		{"more rows", phases(2, 1, 1, 2), x, floats(1, 1, 0), api.PhaseMap{}, api.ErrClash},
		{"turned sizes", phases(2, 1, 1, 2), x, floats(1, 2, 0, 0), api.PhaseMap{}, api.ErrClash},
	} {
		got, err := fringe.Flattened(c.m, c.x, c.h)
		expect(t, c.what, got, err, c.want, c.err)
	}
	numbers := source(8)
	m, h := numbers.phases(9, 8, 9000, 10), numbers.floats(9, 8, 3000)
	before, heights := copyOfMap(m), copyOfFloats(h)
	flat, err := fringe.ModelPhases(x, h)
	expectError(t, "ModelPhases", err, api.OK)
	want, err := fringe.Difference(m, flat)
	expectError(t, "Difference", err, api.OK)
	got, err := fringe.Flattened(m, x, h)
	expect(t, "Flattened", got, err, want, api.OK)
	expect(t, "the map behind it", m, api.OK, before, api.OK)
	expect(t, "the heights behind it", h, api.OK, heights, api.OK)
}
