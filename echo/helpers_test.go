package echo_test

import (
	"math"
	"reflect"
	"slices"
	"testing"

	"swath/api"
)

// expect compares a value with its error code.
func expect[T any](t *testing.T, what string, got T, err api.Errno, want T, wantErr api.Errno) {
	t.Helper()
	if !reflect.DeepEqual(got, want) || err != wantErr {
		t.Errorf("%s: %v, error %d; want %v, error %d", what, got, err, want, wantErr)
	}
}

func image(lines, samples int, data ...complex64) api.RadarImage {
	return api.RadarImage{Lines: lines, Samples: samples, Data: data}
}

func field(lines, samples int, data ...complex128) api.RadarField {
	return api.RadarField{Lines: lines, Samples: samples, Data: data}
}

func copyOfImage(im api.RadarImage) api.RadarImage {
	im.Data = slices.Clone(im.Data)
	return im
}

func copyOfField(f api.RadarField) api.RadarField {
	f.Data = slices.Clone(f.Data)
	return f
}

// source gives the same numbers in each run.
type source int

func (s *source) below(n int) int {
	*s = (*s*1103515245 + 12345) % 2147483648
	return int(*s) / 8 % n
}

func (s *source) part(size int) float64 { return float64(s.below(2*size+1) - size) }

func (s *source) image(lines, samples, size int) api.RadarImage {
	im := image(lines, samples)
	for range lines * samples {
		im.Data = append(im.Data, complex64(complex(s.part(size), s.part(size))))
	}
	return im
}

func (s *source) field(lines, samples, size int) api.RadarField {
	f := field(lines, samples)
	for range lines * samples {
		f.Data = append(f.Data, complex(s.part(size), s.part(size)))
	}
	return f
}

// code gives a code that does not begin with 0.
func (s *source) code(length int) []complex64 {
	code := s.image(1, length, api.MaxCode).Data
	code[0] = 1 - 2i
	return code
}

func (s *source) list(n int) []int {
	list := make([]int, n)
	for i := range list {
		list[i] = s.below(api.EchoPrime)
	}
	return list
}

var (
	minusZero = math.Copysign(0, -1)
	notNumber = math.NaN()
	infinity  = math.Inf(1)
)

func narrowSample(x, y float64) complex64 { return complex(float32(x), float32(y)) }

// expectNoMinusZero looks at the signs, as -0 equals 0.
func expectNoMinusZero(t *testing.T, what string, samples []complex128) {
	t.Helper()
	for i, z := range samples {
		if real(z) == 0 && math.Signbit(real(z)) || imag(z) == 0 && math.Signbit(imag(z)) {
			t.Errorf("%s: sample %d has -0: %v", what, i, z)
		}
	}
}

func widened(samples []complex64) []complex128 {
	var wide []complex128
	for _, z := range samples {
		wide = append(wide, complex128(z))
	}
	return wide
}

type imageFault struct {
	what string
	im   api.RadarImage
	at   int
	err  api.Errno
}

// imageFaults are images with errors, beside those that CheckImage gives.
func imageFaults() []imageFault {
	half := complex64(0.5)
	return []imageFault{
		{"nothing", api.RadarImage{}, 0, api.ErrRange},
		{"no lines", image(0, 1, 1), 0, api.ErrRange},
		{"lines below 0", image(-1, -1, 1), 0, api.ErrRange},
		{"65 lines", image(65, 1), 0, api.ErrRange},
		{"no samples", image(1, 0), 0, api.ErrRange},
		{"65 samples", image(1, 65), 0, api.ErrRange},
		{"sizes whose product is small", image(math.MinInt, 2), 0, api.ErrRange},
		{"too few samples", image(2, 2, 1, 2, 3), 0, api.ErrShape},
		{"too many samples", image(1, 1, 1, half), 0, api.ErrShape},
		{"no data", image(1, 1), 0, api.ErrShape},
		{"a half", image(1, 2, 1, half), 1, api.ErrWhole},
		{"a half i", image(2, 1, 1, half*1i), 1, api.ErrWhole},
		{"not a number", image(1, 1, narrowSample(notNumber, 0)), 0, api.ErrWhole},
		{"infinity", image(1, 3, 0, 0, narrowSample(0, infinity)), 2, api.ErrWhole},
		{"minus infinity", image(1, 1, narrowSample(-infinity, 0)), 0, api.ErrWhole},
		{"4000", image(1, 1, 4000), 0, api.ErrRange},
		{"2048", image(1, 2, 2047, 2048), 1, api.ErrRange},
		{"-2048 i", image(1, 2, -2047i, -2048i), 1, api.ErrRange},
		{"10^30", image(1, 1, 1e30), 0, api.ErrRange},
		{"a great part beside a half one", image(1, 1, 4000+half*1i), 0, api.ErrWhole},
		{"a great sample before a half one", image(1, 2, 4000, half), 0, api.ErrRange},
		{"a half sample before a great one", image(1, 2, half, 4000), 0, api.ErrWhole},
	}
}

type fieldFault struct {
	what string
	f    api.RadarField
	at   int
	err  api.Errno
}

// fieldFaults are fields with errors, beside those that CheckField gives.
func fieldFaults() []fieldFault {
	return []fieldFault{
		{"nothing", api.RadarField{}, 0, api.ErrRange},
		{"65 lines", field(65, 1), 0, api.ErrRange},
		{"no samples", field(1, 0), 0, api.ErrRange},
		{"65 samples", field(1, 65), 0, api.ErrRange},
		{"too few samples", field(2, 2, 1, 2, 3), 0, api.ErrShape},
		{"too many samples", field(1, 1, 1, 0.5), 0, api.ErrShape},
		{"a half", field(1, 2, 1, 0.5), 1, api.ErrWhole},
		{"not a number", field(1, 1, complex(0, notNumber)), 0, api.ErrWhole},
		{"infinity", field(1, 1, complex(infinity, 0)), 0, api.ErrWhole},
		{"10^9 and 1", field(1, 2, 1e9, 1e9+1), 1, api.ErrRange},
		{"less than -10^9 i", field(1, 2, -1e9i, -1e9i-1i), 1, api.ErrRange},
		{"a great part beside a half one", field(1, 1, 2e9+0.5i), 0, api.ErrWhole},
		{"a great sample before a half one", field(1, 2, 2e9, 0.5), 0, api.ErrRange},
	}
}

type codeFault struct {
	what string
	code []complex64
	at   int
	err  api.Errno
}

// codeFaults are codes with errors, beside those that CheckCode gives.
func codeFaults() []codeFault {
	long := make([]complex64, api.MaxCodes+1)
	long[0] = 0.5
	return []codeFault{
		{"no samples", nil, 0, api.ErrShape},
		{"33 samples", long, 0, api.ErrLarge},
		{"a half", []complex64{1, 0.5}, 1, api.ErrWhole},
		{"infinity", []complex64{narrowSample(infinity, 0)}, 0, api.ErrWhole},
		{"4", []complex64{3, 4}, 1, api.ErrRange},
		{"-4 i", []complex64{-3i, 0, -4i}, 2, api.ErrRange},
		{"a great part beside a half one", []complex64{4 + 0.5i}, 0, api.ErrWhole},
		{"a half behind zeros", []complex64{0, 0, 0.5}, 2, api.ErrWhole},
		{"zeros", []complex64{0, 0}, 0, api.ErrZero},
		{"a zero with a sign", []complex64{narrowSample(minusZero, minusZero)}, 0, api.ErrZero},
	}
}
