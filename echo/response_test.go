package echo_test

import (
	"math"
	"testing"

	"swath/api"
	"swath/echo"
)

// P1.5
func TestEnergyAt(t *testing.T) {
	f := field(2, 3, 1, 2i, 3+4i, -5, -1e9+1e9i, 0)
	for _, x := range []struct {
		line, sample, want int
		err                api.Errno
	}{
		{0, 0, 1, api.OK}, {0, 1, 4, api.OK}, {0, 2, 25, api.OK}, {1, 0, 25, api.OK}, {1, 2, 0, api.OK},
		{1, 1, 2000000000000000000, api.OK},
		{2, 0, 0, api.ErrRange}, {-1, 0, 0, api.ErrRange}, {0, 3, 0, api.ErrRange}, {0, -1, 0, api.ErrRange},
		{math.MaxInt, 0, 0, api.ErrRange}, {0, math.MinInt, 0, api.ErrRange}, {1, math.MaxInt, 0, api.ErrRange},
	} {
		got, err := echo.EnergyAt(f, x.line, x.sample)
		expect(t, "EnergyAt", got, err, x.want, x.err)
	}
	got, err := echo.EnergyAt(field(1, 1, 999999999+999999998i), 0, 0)
	expect(t, "EnergyAt, to the last digit", got, err, 999999999*999999999+999999998*999999998, api.OK)
}

// P1.5
func TestPeak(t *testing.T) {
	for _, x := range []struct {
		what   string
		f      api.RadarField
		at     [2]int
		energy int
	}{
		{"a peak", field(2, 3, 1, 2, 3, 4, -5i, 1), [2]int{1, 1}, 25},
		{"the first one of peaks", field(2, 3, 1, 2, 3, 4, -5i, 3+4i), [2]int{1, 1}, 25},
		{"the first one of lines", field(2, 2, 0, 7, 7i, 7), [2]int{0, 1}, 49},
		{"zeros", field(2, 2, 0, 0, 0, 0), [2]int{0, 0}, 0},
		{"one more", field(1, 2, 999999999+999999998i, 999999999+999999999i), [2]int{0, 1}, 2 * 999999999 * 999999999},
	} {
		at, energy, err := echo.Peak(x.f)
		expect(t, "Peak of "+x.what, at, err, x.at, api.OK)
		expect(t, "the energy of "+x.what, energy, err, x.energy, api.OK)
	}
}

// P1.5
func TestResponse(t *testing.T) {
	for _, x := range []struct {
		what string
		line []complex128
		want api.EchoPoint
	}{
		{"the example", []complex128{0, 3, 0}, point(1, 9, 1, 1, 0, 2, 0)},
		{"one sample", []complex128{2i}, point(0, 4, 0, 0, 0, 0, 0)},
		{"half of it and less", []complex128{2, 1 + 1i, 2i, 1}, point(0, 4, 0, 2, 0, 1, 4)},
		{"exactly half", []complex128{1, 1 + 1i, 0}, point(1, 2, 0, 1, 0, 2, 0)},
		{"just below half", []complex128{1, 1 + 2i, 1 + 1i}, point(1, 5, 1, 1, 0, 2, 0)},
		{"a side lobe", []complex128{3, 1, 2, 10, 4, 4, 1, 6}, point(3, 100, 3, 3, 1, 4, 36)},
		{"half beyond the lobe", []complex128{9, 8, 9, 10, 9, 8, 9}, point(3, 100, 0, 6, 1, 5, 81)},
		{"the first one of two", []complex128{1, 5, 5, 1}, point(1, 25, 1, 2, 0, 1, 25)},
		{"half stops at a gap", []complex128{8, 0, 10, 0, 8}, point(2, 100, 2, 2, 1, 3, 64)},
		{"equal energies end a lobe", []complex128{2, 2, 5, 0, 0, 1}, point(2, 25, 2, 2, 1, 3, 4)},
		{"great energies", []complex128{1e9 + 1e9i, 1e9, 1e9 - 1}, point(0, 2000000000000000000, 0, 1, 0, 2, 0)},
	} {
		f := field(1, len(x.line), x.line...)
		got, err := echo.Response(f, 0)
		expect(t, "Response of "+x.what, got, err, x.want, api.OK)
	}
}

// P1.5: only the line that is asked for counts.
func TestResponseOfLines(t *testing.T) {
	f := field(3, 2, 9, 8, 1, 2, 0, 0)
	got, err := echo.Response(f, 1)
	expect(t, "Response of line 1", got, err, point(1, 4, 1, 1, 0, 1, 0), api.OK)
	got, err = echo.Response(f, 2)
	expect(t, "Response of zeros", got, err, api.EchoPoint{}, api.ErrNone)
	for _, line := range []int{-1, 3, math.MaxInt, math.MinInt} {
		got, err = echo.Response(f, line)
		expect(t, "Response of no line", got, err, api.EchoPoint{}, api.ErrRange)
	}
	before := copyOfField(f)
	echo.Peak(f)
	echo.EnergyAt(f, 0, 0)
	expect(t, "the field behind it", f, api.OK, before, api.OK)
}

func point(peak, energy, halfLo, halfHi, lobeLo, lobeHi, side int) api.EchoPoint {
	return api.EchoPoint{Peak: peak, Energy: energy, Half: api.Range{Lo: halfLo, Hi: halfHi}, Lobe: api.Range{Lo: lobeLo, Hi: lobeHi}, Side: side}
}
