package match_test

import (
	"math"
	"math/big"
	"testing"

	"swath/api"
	"swath/match"
)

// weightsOf is the definition of the weights of a kernel, the last one is their sum.
func weightsOf(kernel, p int) []int {
	switch kernel {
	case api.KernelCubic:
		return []int{32*p*p - p*p*p - 256*p, 3*p*p*p - 80*p*p + 8192, 64*p*p - 3*p*p*p + 256*p, p*p*p - 16*p*p, 8192}
	case api.KernelLinear:
		return []int{16 - p, p, 16}
	}
	if p < 8 {
		return []int{1, 0, 1}
	}
	return []int{0, 1, 1}
}

// P3.4, P3.9: the weights of all kernels; they have their sum.
func TestWeights(t *testing.T) {
	for _, kernel := range kernels() {
		for p := range 16 {
			got, sum, err := match.Weights(kernel, p)
			want := weightsOf(kernel, p)
			expectError(t, "Weights", err, api.OK)
			if len(got) != len(want)-1 || int(sum) != want[len(want)-1] {
				t.Fatalf("kernel %d, part %d: %v, sum %v; want %v", kernel, p, got, sum, want)
			}
			var added float32
			for i, weight := range got {
				if weight != float32(want[i]) || weight == 0 && math.Signbit(float64(weight)) {
					t.Errorf("kernel %d, part %d: %v; want %v", kernel, p, got, want)
				}
				added += weight
			}
			if added != sum {
				t.Errorf("kernel %d, part %d: %v add up to %v, not %v", kernel, p, got, added, sum)
			}
			got[0] = 77
			if again, _, _ := match.Weights(kernel, p); again[0] == 77 {
				t.Errorf("kernel %d, part %d: the weights are kept", kernel, p)
			}
		}
	}
}

// P3.4
func TestWeightsOfExamples(t *testing.T) {
	for _, x := range []struct {
		kernel, part int
		want         []float32
		sum          float32
		err          api.Errno
	}{
		{api.KernelLinear, 4, []float32{12, 4}, 16, api.OK},
		{api.KernelCubic, 8, []float32{-512, 4608, 4608, -512}, 8192, api.OK},
		{api.KernelCubic, 0, []float32{0, 8192, 0, 0}, 8192, api.OK},
		{api.KernelNearest, 7, []float32{1, 0}, 1, api.OK},
		{api.KernelNearest, 8, []float32{0, 1}, 1, api.OK},
		{-1, 0, nil, 0, api.ErrKind},
		{3, 16, nil, 0, api.ErrKind},
		{math.MaxInt, 0, nil, 0, api.ErrKind},
		{math.MinInt, 0, nil, 0, api.ErrKind},
		{api.KernelNearest, -1, nil, 0, api.ErrRange},
		{api.KernelLinear, 16, nil, 0, api.ErrRange},
		{api.KernelCubic, math.MinInt, nil, 0, api.ErrRange},
	} {
		got, sum, err := match.Weights(x.kernel, x.part)
		expect(t, "Weights", got, err, x.want, x.err)
		expect(t, "the sum of weights", sum, err, x.sum, x.err)
	}
}

// P3.4
func TestSampleAt(t *testing.T) {
	two, great := line(10, 20), line(-2047+2047i, 2047-2047i, 2047-2047i, -2047+2047i)
	four := image(2, 2, 1, 2, 3, 4)
	for _, x := range []struct {
		what   string
		im     api.RadarImage
		kernel int
		at     [2]int
		want   complex64
		err    api.Errno
	}{
		{"the sixth example, linear", two, api.KernelLinear, [2]int{0, 4}, 13, api.OK},
		{"the sixth example, nearest", two, api.KernelNearest, [2]int{0, 4}, 10, api.OK},
		{"just below the middle", two, api.KernelNearest, [2]int{0, 7}, 10, api.OK},
		{"the middle", two, api.KernelNearest, [2]int{0, 8}, 20, api.OK},
		{"the middle of lines", image(2, 1, 10, 20), api.KernelNearest, [2]int{8, 0}, 20, api.OK},
		{"half the way out", two, api.KernelNearest, [2]int{0, 24}, 0, api.OK},
		{"half the way in", two, api.KernelNearest, [2]int{0, -8}, 10, api.OK},
		{"not half the way in", two, api.KernelNearest, [2]int{0, -9}, 0, api.OK},
		{"linear before the image", two, api.KernelLinear, [2]int{0, -4}, 8, api.OK},
		{"linear behind the image", two, api.KernelLinear, [2]int{0, 20}, 15, api.OK},
		{"linear above the image", two, api.KernelLinear, [2]int{-8, 0}, 5, api.OK},
		{"linear below the image", two, api.KernelLinear, [2]int{12, 16}, 5, api.OK},
		{"linear in both", four, api.KernelLinear, [2]int{8, 8}, 3, api.OK},
		{"lines and samples are two things", four, api.KernelLinear, [2]int{16, 0}, 3, api.OK},
		{"cubic in the middle", line(0, 16, 16, 0), api.KernelCubic, [2]int{0, 24}, 18, api.OK},
		{"cubic is greater than all around", line(0, 1600, 1600, 0), api.KernelCubic, [2]int{0, 24}, 1800, api.OK},
		{"cubic is less than all around", line(1600, 0, 0, 1600), api.KernelCubic, [2]int{0, 24}, -200, api.OK},
		{"the first one of four", line(1600, 0, 0, 0), api.KernelCubic, [2]int{0, 24}, -100, api.OK},
		{"the last one of four", line(0, 0, 0, 1600), api.KernelCubic, [2]int{0, 20}, -37, api.OK},
		{"cubic beyond the limits", great, api.KernelCubic, [2]int{0, 24}, 2047 - 2047i, api.OK},
		{"a half upwards", line(-17, 0), api.KernelLinear, [2]int{0, 8}, -8, api.OK},
		{"a half upwards, imaginary", line(-17i, 0), api.KernelLinear, [2]int{0, 8}, -8i, api.OK},
		{"a half upwards to 0", line(-1-1i, 0), api.KernelLinear, [2]int{0, 8}, 0, api.OK},
		{"a half above 0", line(17+1i, 0), api.KernelLinear, [2]int{0, 8}, 9 + 1i, api.OK},
		{"far before", two, api.KernelCubic, [2]int{-2048, -2048}, 0, api.OK},
		{"far behind", two, api.KernelCubic, [2]int{2048, 2048}, 0, api.OK},
		{"the last sample of the greatest image", zerosBut(64, 64, 63, 63, 5), api.KernelLinear, [2]int{1008, 1008}, 5, api.OK},
		{"lines below all", two, api.KernelLinear, [2]int{-2049, 0}, 0, api.ErrRange},
		{"lines above all", two, api.KernelLinear, [2]int{2049, 0}, 0, api.ErrRange},
		{"samples below all", two, api.KernelLinear, [2]int{0, -2049}, 0, api.ErrRange},
		{"samples above all", two, api.KernelLinear, [2]int{0, 2049}, 0, api.ErrRange},
		{"the greatest place of all", two, api.KernelLinear, [2]int{math.MaxInt, math.MinInt}, 0, api.ErrRange},
		{"no kernel", two, -1, [2]int{2049, 0}, 0, api.ErrKind},
		{"no kernel either", two, 3, [2]int{}, 0, api.ErrKind},
	} {
		got, err := match.SampleAt(x.im, x.kernel, x.at)
		expect(t, x.what, got, err, x.want, x.err)
		expectNoMinusZero(t, x.what, got)
	}
	for _, kernel := range kernels() {
		got, err := match.SampleAt(line(complex(minusZero, minusZero), complex(minusZero, -1)), kernel, [2]int{})
		expect(t, "-0", got, err, 0, api.OK)
		expectNoMinusZero(t, "-0", got)
	}
}

// sampleOf is the definition of the sample at a place.
func sampleOf(im api.RadarImage, kernel int, at [2]int) complex64 {
	var hand [2]int
	var weights [2][]int
	for axis, n := range at {
		hand[axis] = down(big.NewRat(int64(n), 16))
		weights[axis] = weightsOf(kernel, n-16*hand[axis])
	}
	count := len(weights[0]) - 1
	first := 0
	if kernel == api.KernelCubic {
		first = -1
	}
	var real, imag int
	for i := range count {
		for j := range count {
			x, y := partsAt(im, hand[0]+first+i, hand[1]+first+j)
			real += weights[0][i] * weights[1][j] * x
			imag += weights[0][i] * weights[1][j] * y
		}
	}
	scale := weights[0][count] * weights[1][count]
	return complex(limited(fractionOf(real, scale)), limited(fractionOf(imag, scale)))
}

func limited(r *big.Rat) float32 {
	return float32(min(max(nearest(r), -2047), 2047))
}

// P3.4: against the definition, also around the image.
func TestSampleAtByDefinition(t *testing.T) {
	numbers := source(8)
	for _, size := range []int{1, 50, api.MaxSample} {
		im := numbers.image(5, 6, size)
		for _, kernel := range kernels() {
			for range 400 {
				at := [2]int{numbers.from(-50, 130), numbers.from(-50, 146)}
				got, err := match.SampleAt(im, kernel, at)
				expect(t, "SampleAt", got, err, sampleOf(im, kernel, at), api.OK)
			}
		}
	}
}

// P3.4
func TestResampled(t *testing.T) {
	im := line(10, 20, 30)
	quarter := affine(4, [3]int{}, [3]int{1, 0, 0})
	for _, x := range []struct {
		what string
		r    api.MatchResample
		want api.RadarImage
		err  api.Errno
	}{
		{"no shift", resample(api.KernelCubic, 1, 3, whole(0, 0)), im, api.OK},
		{"a quarter", resample(api.KernelLinear, 1, 3, quarter), line(13, 23, 23), api.OK},
		{"a quarter, nearest", resample(api.KernelNearest, 1, 3, quarter), im, api.OK},
		{"a greater image", resample(api.KernelLinear, 2, 4, whole(0, 0)), image(2, 4, 10, 20, 30, 0, 0, 0, 0, 0), api.OK},
		{"a smaller image, later", resample(api.KernelLinear, 1, 2, whole(0, 1)), line(20, 30), api.OK},
		{"a line earlier", resample(api.KernelLinear, 2, 3, whole(-1, 0)), image(2, 3, 0, 0, 0, 10, 20, 30), api.OK},
		{"samples that run backwards", resample(api.KernelLinear, 1, 3, affine(1, [3]int{}, [3]int{2, 0, -2})), line(30, 20, 10), api.OK},
		{"shifts out of all places", resample(api.KernelCubic, 1, 2, affine(1, [3]int{api.MaxMatchTerm, 0, 0}, [3]int{0, 0, -api.MaxMatchTerm})), line(0, 0), api.OK},
		{"samples out of all places but the first one", resample(api.KernelCubic, 1, 2, affine(1, [3]int{}, [3]int{0, 0, api.MaxMatchTerm})), line(10, 0), api.OK},
		{"places beyond those of SampleAt", resample(api.KernelLinear, 1, 1, whole(129, 0)), line(0), api.OK},
		{"no kernel", resample(3, 0, 0, api.MatchAffine{}), api.RadarImage{}, api.ErrKind},
		{"a kernel below 0", resample(-1, 1, 1, whole(0, 0)), api.RadarImage{}, api.ErrKind},
		{"no lines", resample(0, 0, 1, whole(0, 0)), api.RadarImage{}, api.ErrRange},
		{"65 lines", resample(0, 65, 1, whole(0, 0)), api.RadarImage{}, api.ErrRange},
		{"no samples", resample(0, 1, 0, whole(0, 0)), api.RadarImage{}, api.ErrRange},
		{"65 samples", resample(0, 1, 65, whole(0, 0)), api.RadarImage{}, api.ErrRange},
		{"sizes beyond all", resample(0, math.MaxInt, math.MinInt, whole(0, 0)), api.RadarImage{}, api.ErrRange},
		{"no shift at all", resample(0, 1, 1, api.MatchAffine{}), api.RadarImage{}, api.ErrRange},
	} {
		got, err := match.Resampled(im, x.r)
		expect(t, x.what, got, err, x.want, x.err)
		expectNoMinusZero(t, x.what, got.Data...)
	}
	got, err := match.Resampled(im, resample(0, 64, 64, whole(0, 0)))
	expect(t, "the greatest size", len(got.Data), err, 4096, api.OK)
	got, err = match.Resampled(im, resample(api.KernelLinear, 1, 3, whole(0, 0)))
	expect(t, "a copy", got, err, im, api.OK)
	got.Data[0] = 7
	expect(t, "the image when the result changes", im, api.OK, line(10, 20, 30), api.OK)
}

// P3.4: against the definition.
func TestResampledByDefinition(t *testing.T) {
	numbers := source(9)
	for range 20 {
		im := numbers.image(numbers.from(1, 20), numbers.from(1, 20), api.MaxSample)
		for _, kernel := range kernels() {
			r := resample(kernel, numbers.from(1, 20), numbers.from(1, 20), numbers.affine(40, 60))
			want := zeros(r.Lines, r.Samples)
			for i := range want.Data {
				l, s := i/r.Samples, i%r.Samples
				by := sixteenthsOf(r.By, l, s)
				want.Data[i] = sampleOf(im, kernel, [2]int{16*l + by[0], 16*s + by[1]})
			}
			got, err := match.Resampled(im, r)
			expect(t, "Resampled", got, err, want, api.OK)
		}
	}
}
