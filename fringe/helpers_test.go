package fringe_test

import (
	"math"
	"reflect"
	"slices"
	"testing"

	"swath/api"
)

const void = api.PhaseVoid

// expect compares a value with its error code.
func expect[T any](t *testing.T, what string, got T, err api.Errno, want T, wantErr api.Errno) {
	t.Helper()
	if !reflect.DeepEqual(got, want) || err != wantErr {
		t.Errorf("%s: %v, error %d; want %v, error %d", what, got, err, want, wantErr)
	}
}

func expectError(t *testing.T, what string, err, want api.Errno) {
	t.Helper()
	if err != want {
		t.Errorf("%s: error %d, want %d", what, err, want)
	}
}

func image(lines, samples int, data ...complex64) api.RadarImage {
	return api.RadarImage{Lines: lines, Samples: samples, Data: data}
}

func field(lines, samples int, data ...complex128) api.RadarField {
	return api.RadarField{Lines: lines, Samples: samples, Data: data}
}

func phases(rows, columns int, data ...int) api.PhaseMap {
	return api.PhaseMap{Rows: rows, Columns: columns, Phases: data}
}

func floats(rows, columns int, data ...float32) api.FloatMap {
	return api.FloatMap{Rows: rows, Columns: columns, Data: data}
}

func model(base, perRow, perColumn, perHeight int) api.FringeModel {
	return api.FringeModel{Base: base, PerRow: perRow, PerColumn: perColumn, PerHeight: perHeight}
}

func box(row, column, high, wide int) api.FringeBox {
	return api.FringeBox{Row: row, Column: column, High: high, Wide: wide}
}

func residue(row, column, turns int) api.FringeResidue {
	return api.FringeResidue{Row: row, Column: column, Turns: turns}
}

func copyOfImage(im api.RadarImage) api.RadarImage {
	im.Data = slices.Clone(im.Data)
	return im
}

func copyOfField(f api.RadarField) api.RadarField {
	f.Data = slices.Clone(f.Data)
	return f
}

func copyOfMap(m api.PhaseMap) api.PhaseMap {
	m.Phases = slices.Clone(m.Phases)
	return m
}

func copyOfFloats(h api.FloatMap) api.FloatMap {
	h.Data = slices.Clone(h.Data)
	return h
}

// source gives the same numbers in each run.
type source int

func (s *source) below(n int) int {
	*s = (*s*1103515245 + 12345) % 2147483648
	return int(*s) / 8 % n
}

func (s *source) from(lo, hi int) int { return lo + s.below(hi-lo+1) }

func (s *source) image(lines, samples, size int) api.RadarImage {
	im := image(lines, samples)
	for range lines * samples {
		im.Data = append(im.Data, complex(float32(s.from(-size, size)), float32(s.from(-size, size))))
	}
	return im
}

func (s *source) field(lines, samples, size int) api.RadarField {
	f := field(lines, samples)
	for range lines * samples {
		f.Data = append(f.Data, complex(float64(s.from(-size, size)), float64(s.from(-size, size))))
	}
	return f
}

// phases gives a map in which one pixel of so many is void, or none if voids is 0.
func (s *source) phases(rows, columns, size, voids int) api.PhaseMap {
	m := phases(rows, columns)
	for range rows * columns {
		n := s.from(-size, size)
		if voids > 0 && s.below(voids) == 0 {
			n = void
		}
		m.Phases = append(m.Phases, n)
	}
	return m
}

func (s *source) floats(rows, columns, size int) api.FloatMap {
	h := floats(rows, columns)
	for range rows * columns {
		h.Data = append(h.Data, float32(s.from(-size, size)))
	}
	return h
}

// wrapped is the definition of a wrapped phase.
func wrapped(n int) int {
	for n < -2048 {
		n += 4096
	}
	for n > 2047 {
		n -= 4096
	}
	return n
}

// numbers gives both parts of each sample as whole numbers.
func numbers(im api.RadarImage) [][2]int {
	var l [][2]int
	for _, z := range im.Data {
		l = append(l, [2]int{int(real(z)), int(imag(z))})
	}
	return l
}

func fieldOfParts(lines, samples int, parts [][2]int) api.RadarField {
	f := field(lines, samples)
	for _, p := range parts {
		f.Data = append(f.Data, complex(float64(p[0]), float64(p[1])))
	}
	return f
}

// products is the definition of an interferogram, in whole numbers.
func products(a, b api.RadarImage) [][2]int {
	second := numbers(b)
	var l [][2]int
	for i, x := range numbers(a) {
		y := second[i]
		l = append(l, [2]int{x[0]*y[0] + x[1]*y[1], x[1]*y[0] - x[0]*y[1]})
	}
	return l
}

// windowSums is the definition of sums over windows: it looks at each pair of places.
func windowSums(lines, samples int, parts [][2]int, half int) [][2]int {
	sums := make([][2]int, len(parts))
	for i := range parts {
		for j, p := range parts {
			if size(i/samples-j/samples) <= half && size(i%samples-j%samples) <= half {
				sums[i][0] += p[0]
				sums[i][1] += p[1]
			}
		}
	}
	return sums
}

func size(n int) int { return max(n, -n) }

var (
	minusZero = math.Copysign(0, -1)
	notNumber = math.NaN()
	infinity  = math.Inf(1)
)

// expectNoMinusZero looks at the signs, as -0 equals 0.
func expectNoMinusZero(t *testing.T, what string, data []complex128) {
	t.Helper()
	for i, z := range data {
		if real(z) == 0 && math.Signbit(real(z)) || imag(z) == 0 && math.Signbit(imag(z)) {
			t.Errorf("%s: the number %d has -0: %v", what, i, z)
		}
	}
}

type imageFault struct {
	what string
	im   api.RadarImage
	err  api.Errno
}

func imageFaults() []imageFault {
	return []imageFault{
		{"nothing", api.RadarImage{}, api.ErrRange},
		{"65 lines", image(65, 1, make([]complex64, 65)...), api.ErrRange},
		{"no samples", image(1, 0), api.ErrRange},
		{"too few samples", image(2, 2, 1, 2, 3), api.ErrShape},
		{"a half", image(1, 2, 1, 0.5), api.ErrWhole},
		{"2048", image(1, 1, 2048), api.ErrRange},
	}
}

type fieldFault struct {
	what string
	f    api.RadarField
	err  api.Errno
}

func fieldFaults() []fieldFault {
	return []fieldFault{
		{"nothing", api.RadarField{}, api.ErrRange},
		{"no lines", field(0, 1), api.ErrRange},
		{"65 samples", field(1, 65, make([]complex128, 65)...), api.ErrRange},
		{"too many numbers", field(1, 1, 1, 2), api.ErrShape},
		{"a half", field(1, 2, 1, 0.5i), api.ErrWhole},
		{"not a number", field(1, 1, complex(notNumber, 0)), api.ErrWhole},
		{"10^9 and 1", field(1, 1, 1e9+1), api.ErrRange},
		{"less than -10^9 i", field(1, 1, -1e9i-1i), api.ErrRange},
	}
}

type mapFault struct {
	what string
	m    api.PhaseMap
	at   int
	err  api.Errno
}

// mapFaults are maps with errors, beside the number that CheckMap gives.
func mapFaults() []mapFault {
	return []mapFault{
		{"nothing", api.PhaseMap{}, 0, api.ErrRange},
		{"no rows", phases(0, 1), 0, api.ErrRange},
		{"rows below 0", phases(-1, -1, 1), 0, api.ErrRange},
		{"65 rows", phases(65, 1, make([]int, 65)...), 0, api.ErrRange},
		{"no columns", phases(1, 0), 0, api.ErrRange},
		{"65 columns", phases(1, 65, make([]int, 65)...), 0, api.ErrRange},
		{"sizes whose product is 0", phases(math.MinInt, 2), 0, api.ErrRange},
		{"too few phases", phases(2, 2, 1, 2, 3), 0, api.ErrShape},
		{"too many phases", phases(1, 1, 1, math.MaxInt), 0, api.ErrShape},
		{"no phases", phases(1, 1), 0, api.ErrShape},
		{"10^8 and 1", phases(1, 2, 100000000, 100000001), 1, api.ErrRange},
		{"less than -10^8", phases(2, 1, -100000000, -100000001), 1, api.ErrRange},
		{"nearly void", phases(1, 3, void, 0, void-1), 2, api.ErrRange},
		{"more than void", phases(1, 1, void+1), 0, api.ErrRange},
		{"void below 0", phases(1, 1, -void), 0, api.ErrRange},
		{"the greatest number of all", phases(1, 2, void, math.MaxInt), 1, api.ErrRange},
		{"the least number of all", phases(1, 1, math.MinInt), 0, api.ErrRange},
		{"two wrong phases", phases(1, 4, 0, -200000000, 5, 200000000), 1, api.ErrRange},
	}
}

type floatFault struct {
	what string
	h    api.FloatMap
	at   int
	err  api.Errno
}

// floatFaults are float maps with errors, beside the number that CheckFloatMap gives.
func floatFaults() []floatFault {
	return []floatFault{
		{"nothing", api.FloatMap{}, 0, api.ErrRange},
		{"no rows", floats(0, 1), 0, api.ErrRange},
		{"65 rows", floats(65, 1, make([]float32, 65)...), 0, api.ErrRange},
		{"columns below 0", floats(1, -1), 0, api.ErrRange},
		{"65 columns", floats(1, 65, make([]float32, 65)...), 0, api.ErrRange},
		{"too few numbers", floats(2, 2, 1, 2, 3), 0, api.ErrShape},
		{"too many numbers", floats(1, 1, 1, 0.5), 0, api.ErrShape},
		{"a half", floats(1, 2, 1, 0.5), 1, api.ErrWhole},
		{"not a number", floats(1, 1, float32(notNumber)), 0, api.ErrWhole},
		{"infinity", floats(1, 3, 0, 0, float32(infinity)), 2, api.ErrWhole},
		{"minus infinity", floats(1, 1, float32(-infinity)), 0, api.ErrWhole},
		{"100001", floats(2, 1, 100000, 100001), 1, api.ErrRange},
		{"-100001", floats(1, 2, -100000, -100001), 1, api.ErrRange},
		{"10^30", floats(1, 1, 1e30), 0, api.ErrRange},
		{"a great number with a half", floats(1, 1, 100000.5), 0, api.ErrWhole},
		{"a great number before a half", floats(1, 2, 100001, 0.5), 0, api.ErrRange},
		{"a half before a great number", floats(1, 2, 0.5, 100001), 0, api.ErrWhole},
	}
}
