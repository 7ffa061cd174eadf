package match_test

import (
	"math"
	"math/big"
	"reflect"
	"slices"
	"testing"

	"swath/api"
)

// expect compares a value with its error code.
func expect[T any](t *testing.T, what string, got T, err api.Errno, want T, wantErr api.Errno) {
	t.Helper()
	if !reflect.DeepEqual(got, want) || err != wantErr {
		t.Errorf("%s: %v, error %d; want %v, error %d", what, got, err, want, wantErr)
	}
}

func expectError(t *testing.T, what string, err, want api.Errno) {
	t.Helper()
	if err != want {
		t.Errorf("%s: error %d, want %d", what, err, want)
	}
}

func image(lines, samples int, data ...complex64) api.RadarImage {
	return api.RadarImage{Lines: lines, Samples: samples, Data: data}
}

func line(data ...complex64) api.RadarImage { return image(1, len(data), data...) }

func zeros(lines, samples int) api.RadarImage {
	return image(lines, samples, make([]complex64, lines*samples)...)
}

func pair(first, second api.RadarImage) api.MatchPair {
	return api.MatchPair{First: first, Second: second}
}

func window(line, sample, lines, samples int) api.MatchWindow {
	return api.MatchWindow{Line: line, Sample: sample, Lines: lines, Samples: samples}
}

func task(lines, samples, step, reach, least, tolerance int) api.MatchTask {
	return api.MatchTask{Lines: lines, Samples: samples, Step: step, Reach: reach, Least: least, Tolerance: tolerance}
}

func point(line, sample, lines, samples int) api.MatchPoint {
	return api.MatchPoint{Line: line, Sample: sample, By: [2]int{lines, samples}, Score: 1000}
}

func scored(line, sample, lines, samples, score int) api.MatchPoint {
	return api.MatchPoint{Line: line, Sample: sample, By: [2]int{lines, samples}, Score: score}
}

func affine(den int, lines, samples [3]int) api.MatchAffine {
	return api.MatchAffine{Den: den, Line: lines, Sample: samples}
}

// whole is a shift by whole lines and samples that is the same everywhere.
func whole(lines, samples int) api.MatchAffine {
	return affine(1, [3]int{lines, 0, 0}, [3]int{samples, 0, 0})
}

func resample(kernel, lines, samples int, by api.MatchAffine) api.MatchResample {
	return api.MatchResample{Kernel: kernel, Lines: lines, Samples: samples, By: by}
}

func kernels() []int {
	return []int{api.KernelNearest, api.KernelLinear, api.KernelCubic}
}

func copyOfImage(im api.RadarImage) api.RadarImage {
	im.Data = slices.Clone(im.Data)
	return im
}

func copyOfPair(p api.MatchPair) api.MatchPair {
	return pair(copyOfImage(p.First), copyOfImage(p.Second))
}

func manyPoints(n int) []api.MatchPoint {
	var l []api.MatchPoint
	for i := range n {
		l = append(l, point(i, i*i%64, 1, 2))
	}
	return l
}

// source gives the same numbers in each run.
type source int

func (s *source) below(n int) int {
	*s = (*s*1103515245 + 12345) % 2147483648
	return int(*s) / 8 % n
}

func (s *source) from(lo, hi int) int { return lo + s.below(hi-lo+1) }

func (s *source) image(lines, samples, size int) api.RadarImage {
	im := image(lines, samples)
	for range lines * samples {
		im.Data = append(im.Data, complex(float32(s.from(-size, size)), float32(s.from(-size, size))))
	}
	return im
}

func (s *source) points(n, place, offset int) []api.MatchPoint {
	var l []api.MatchPoint
	for range n {
		l = append(l, scored(s.below(place), s.below(place), s.from(-offset, offset), s.from(-offset, offset), s.below(1001)))
	}
	return l
}

// moved is the definition of an image that has what another one has, so many lines and samples later.
func moved(im api.RadarImage, lines, samples int) api.RadarImage {
	result := zeros(im.Lines, im.Samples)
	for i := range result.Data {
		x, y := partsAt(im, i/im.Samples-lines, i%im.Samples-samples)
		result.Data[i] = complex(float32(x), float32(y))
	}
	return result
}

// partsAt gives both parts of a sample as whole numbers, 0 outside.
func partsAt(im api.RadarImage, line, sample int) (int, int) {
	if line < 0 || line >= im.Lines || sample < 0 || sample >= im.Samples {
		return 0, 0
	}
	z := im.Data[line*im.Samples+sample]
	return int(real(z)), int(imag(z))
}

// fractionOf tells of a / b that is so great that no int has it.
func fractionOf(a, b int) *big.Rat {
	return big.NewRat(int64(a), int64(b))
}

func down(r *big.Rat) int {
	return int(new(big.Int).Div(r.Num(), r.Denom()).Int64())
}

// nearest takes halves upwards.
func nearest(r *big.Rat) int {
	return down(new(big.Rat).Add(r, big.NewRat(1, 2)))
}

func size(n int) int { return max(n, -n) }

var minusZero = float32(math.Copysign(0, -1))

// expectNoMinusZero looks at the signs, as -0 equals 0.
func expectNoMinusZero(t *testing.T, what string, samples ...complex64) {
	t.Helper()
	for i, z := range samples {
		for _, x := range []float64{float64(real(z)), float64(imag(z))} {
			if x == 0 && math.Signbit(x) {
				t.Errorf("%s: sample %d has -0: %v", what, i, z)
			}
		}
	}
}

type imageFault struct {
	what string
	im   api.RadarImage
	err  api.Errno
}

func imageFaults() []imageFault {
	return []imageFault{
		{"nothing", api.RadarImage{}, api.ErrRange},
		{"65 lines", zeros(65, 1), api.ErrRange},
		{"no samples", image(1, 0), api.ErrRange},
		{"65 samples", zeros(1, 65), api.ErrRange},
		{"too few samples", image(2, 2, 1, 2, 3), api.ErrShape},
		{"no data", image(1, 1), api.ErrShape},
		{"a half", line(1, 0.5), api.ErrWhole},
		{"not a number", line(complex(float32(math.NaN()), 0)), api.ErrWhole},
		{"2048", line(1, 2048), api.ErrRange},
		{"-2048 i", line(-2048i), api.ErrRange},
	}
}

type windowFault struct {
	what string
	w    api.MatchWindow
	err  api.Errno
}

// windowFaults are faults of windows of an image with 9 lines of 10 samples.
func windowFaults() []windowFault {
	return []windowFault{
		{"nothing", api.MatchWindow{}, api.ErrRange},
		{"no lines", window(0, 0, 0, 1), api.ErrRange},
		{"no samples", window(0, 0, 1, 0), api.ErrRange},
		{"lines below 0", window(1, 1, -1, 1), api.ErrRange},
		{"samples below 0", window(1, 1, 1, -1), api.ErrRange},
		{"9 lines", window(0, 0, 9, 1), api.ErrRange},
		{"9 samples", window(0, 0, 1, 9), api.ErrRange},
		{"9 lines outside", window(-1, 0, 9, 1), api.ErrRange},
		{"sizes beyond all", window(0, 0, math.MaxInt, math.MinInt), api.ErrRange},
		{"a line below 0", window(-1, 0, 1, 1), api.ErrBreak},
		{"a sample below 0", window(0, -1, 1, 1), api.ErrBreak},
		{"a line behind the image", window(9, 0, 1, 1), api.ErrBreak},
		{"a sample behind the image", window(0, 10, 1, 1), api.ErrBreak},
		{"a last line behind the image", window(2, 0, 8, 1), api.ErrBreak},
		{"a last sample behind the image", window(0, 3, 1, 8), api.ErrBreak},
		{"the greatest line of all", window(math.MaxInt, 0, 8, 8), api.ErrBreak},
		{"the greatest sample of all", window(0, math.MaxInt, 8, 8), api.ErrBreak},
		{"the least places of all", window(math.MinInt, math.MinInt, 8, 8), api.ErrBreak},
	}
}

type pointsFault struct {
	what string
	l    []api.MatchPoint
	at   int
	err  api.Errno
}

func pointsFaults() []pointsFault {
	good := point(1, 1, 1, 1)
	return []pointsFault{
		{"31 points", append([]api.MatchPoint{point(-1, 0, 0, 0)}, manyPoints(30)...), 0, api.ErrLarge},
		{"a line below 0", []api.MatchPoint{point(-1, 0, 0, 0)}, 0, api.ErrRange},
		{"the line 64", []api.MatchPoint{good, point(64, 0, 0, 0)}, 1, api.ErrRange},
		{"a sample below 0", []api.MatchPoint{good, good, point(0, -1, 0, 0)}, 2, api.ErrRange},
		{"the sample 64", []api.MatchPoint{point(0, 64, 0, 0)}, 0, api.ErrRange},
		{"9 lines", []api.MatchPoint{good, point(0, 0, 9, 0)}, 1, api.ErrRange},
		{"-9 lines", []api.MatchPoint{good, point(0, 0, -9, 0)}, 1, api.ErrRange},
		{"9 samples", []api.MatchPoint{good, point(0, 0, 0, 9)}, 1, api.ErrRange},
		{"-9 samples", []api.MatchPoint{good, point(0, 0, 0, -9)}, 1, api.ErrRange},
		{"a score below 0", []api.MatchPoint{scored(0, 0, 0, 0, -1), good}, 0, api.ErrRange},
		{"the score 1001", []api.MatchPoint{scored(0, 0, 0, 0, 1001), good}, 0, api.ErrRange},
		{"the last of 30", append(manyPoints(29), point(0, 0, math.MinInt, math.MaxInt)), 29, api.ErrRange},
		{"two wrong points", []api.MatchPoint{good, point(64, 0, 0, 0), point(-1, 0, 0, 0)}, 1, api.ErrRange},
	}
}

type affineFault struct {
	what string
	f    api.MatchAffine
}

// affineFaults are affine shifts out of range.
func affineFaults() []affineFault {
	faults := []affineFault{
		{"nothing", api.MatchAffine{}},
		{"a denominator below 0", affine(-1, [3]int{}, [3]int{})},
		{"a great denominator", affine(1000000000001, [3]int{}, [3]int{})},
		{"the least denominator of all", affine(math.MinInt, [3]int{}, [3]int{})},
	}
	for i := range 3 {
		for _, n := range []int{1000000000000001, -1000000000000001, math.MaxInt, math.MinInt} {
			lines, samples := whole(0, 0), whole(0, 0)
			lines.Line[i], samples.Sample[i] = n, n
			faults = append(faults, affineFault{"a great term of lines", lines}, affineFault{"a great term of samples", samples})
		}
	}
	return faults
}
