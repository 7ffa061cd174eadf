package match_test

import (
	"slices"
	"testing"

	"swath/api"
	"swath/match"
)

// P3.7
func TestScoresOfThemselves(t *testing.T) {
	numbers := source(20)
	for range 50 {
		a, b := numbers.image(10, 10, 3), numbers.image(10, 10, 3)
		w := window(numbers.below(3), numbers.below(3), numbers.from(1, 7), numbers.from(1, 7))
		score, err := match.Score(pair(a, b), w, [2]int{})
		if err == api.OK && (score[0] < 0 || score[0] > score[1]) {
			t.Errorf("the score %v is not from 0 to 1", score)
		}
		if cut, _ := match.Cut(a, w); !isZero(cut) {
			own, err := match.Score(pair(a, a), w, [2]int{})
			expect(t, "the score of an image with itself", own, err, [2]int{1, 1}, api.OK)
		}
	}
}

func isZero(im api.RadarImage) bool {
	return !slices.ContainsFunc(im.Data, func(z complex64) bool { return z != 0 })
}

// P3.7
func TestScoreOfMultiples(t *testing.T) {
	numbers := source(21)
	a, b := numbers.image(9, 9, 40), numbers.image(9, 9, 40)
	for _, factor := range []complex64{1i, -3, 2 - 5i, 7 + 7i} {
		c, d := copyOfImage(a), copyOfImage(b)
		for i := range c.Data {
			c.Data[i] *= factor
			d.Data[i] *= factor
		}
		for l := -1; l <= 1; l++ {
			by := [2]int{l, 1}
			want, wantErr := match.Score(pair(a, b), window(1, 0, 7, 8), by)
			got, err := match.Score(pair(c, d), window(1, 0, 7, 8), by)
			expect(t, "the score of multiples", got, err, want, wantErr)
			expectError(t, "the score of multiples", err, api.OK)
			one, err := match.Score(pair(a, d), window(1, 0, 7, 8), by)
			expect(t, "the score of one multiple", one, err, want, api.OK)
		}
	}
}

// P3.7
func TestBestOffsetOfGreaterReach(t *testing.T) {
	numbers := source(22)
	for range 30 {
		p := pair(numbers.image(12, 12, 5), numbers.image(12, 12, 5))
		last := [2]int{0, 1}
		for reach := range 5 {
			_, score, err := match.BestOffset(p, window(4, 4, 4, 4), reach)
			expectError(t, "BestOffset", err, api.OK)
			if score[0]*last[1] < last[0]*score[1] {
				t.Errorf("the score %v of the reach %d is less than %v", score, reach, last)
			}
			last = score
		}
	}
}

// onShift gives points that lie on a shift exactly, at places where it is whole.
func onShift(f api.MatchAffine, step int) []api.MatchPoint {
	var l []api.MatchPoint
	for at := 0; at < 64; at += step {
		for s := 0; s < 64; s += step {
			lines := f.Line[0] + f.Line[1]*at + f.Line[2]*s
			samples := f.Sample[0] + f.Sample[1]*at + f.Sample[2]*s
			if lines%f.Den == 0 && samples%f.Den == 0 && size(lines/f.Den) <= 8 && size(samples/f.Den) <= 8 && len(l) < 29 {
				l = append(l, point(at, s, lines/f.Den, samples/f.Den))
			}
		}
	}
	return l
}

// P3.8
func TestFitOfPointsOnShift(t *testing.T) {
	for _, f := range []api.MatchAffine{
		whole(0, 0), whole(3, -8), exampleShift(),
		affine(20, [3]int{-40, 2, 1}, [3]int{20, -1, 3}), affine(13, [3]int{0, 1, 0}, [3]int{13, 1, 1}),
	} {
		l := onShift(f, max(1, f.Den%7*10+f.Den/13))
		if rank, _ := match.RankOf(l); rank != 3 {
			l = onShift(f, 1)
		}
		got, err := match.Fit(l)
		expect(t, "the shift on which points lie", got, err, f, api.OK)
		worst, err := match.Worst(got, l)
		expect(t, "Worst of points on the shift", worst, err, 0, api.OK)
		for axis := range 2 {
			for _, missed := range residuals(got, l, axis) {
				if missed.Sign() != 0 {
					t.Errorf("%v misses a point by %v", got, missed)
				}
			}
		}
	}
}

// P3.8
func TestFitInAnyOrder(t *testing.T) {
	numbers := source(23)
	for range 20 {
		l := numbers.points(12, 20, 8)
		want, wantErr := match.Fit(l)
		slices.Reverse(l)
		got, err := match.Fit(l)
		expect(t, "points the other way round", got, err, want, wantErr)
		l = append(l[5:], l[:5]...)
		got, err = match.Fit(l)
		expect(t, "points that begin elsewhere", got, err, want, wantErr)
	}
}

// P3.8
func TestFitWithPointMore(t *testing.T) {
	l := []api.MatchPoint{point(0, 0, 0, 0), point(0, 2, 0, 0), point(2, 0, 0, 0), point(2, 2, 4, -8)}
	want, err := match.Fit(l)
	expect(t, "four points", want, err, affine(1, [3]int{-1, 1, 1}, [3]int{2, -2, -2}), api.OK)
	for _, x := range []api.MatchPoint{point(1, 1, 1, -2), point(0, 0, -1, 2), point(3, 1, 3, -6)} {
		got, err := match.Fit(append(slices.Clone(l), x))
		expect(t, "a point more on the shift", got, err, want, api.OK)
	}
}

// P3.9
func TestWholePlaces(t *testing.T) {
	numbers := source(24)
	im := numbers.image(6, 7, api.MaxSample)
	for _, kernel := range kernels() {
		for i, z := range im.Data {
			got, err := match.SampleAt(im, kernel, [2]int{16 * (i / 7), 16 * (i % 7)})
			expect(t, "the sample at its place", got, err, z, api.OK)
		}
		got, err := match.Resampled(im, resample(kernel, 6, 7, whole(0, 0)))
		expect(t, "an image at its place", got, err, im, api.OK)
	}
}

// P3.9
func TestResampledMovesBack(t *testing.T) {
	numbers := source(25)
	im := numbers.image(10, 11, api.MaxSample)
	for _, kernel := range kernels() {
		for _, by := range [][2]int{{0, 0}, {2, -3}, {-4, 5}, {1, 0}, {12, 0}} {
			there, err := match.Resampled(im, resample(kernel, 10, 11, whole(by[0], by[1])))
			expect(t, "an image that is moved", there, err, moved(im, -by[0], -by[1]), api.OK)
			back, err := match.Resampled(there, resample(kernel, 10, 11, whole(-by[0], -by[1])))
			expect(t, "an image that is moved back", back, err, moved(there, by[0], by[1]), api.OK)
			for i, z := range im.Data {
				l, s := i/11-by[0], i%11-by[1]
				if l >= 0 && l < 10 && s >= 0 && s < 11 && back.Data[i] != z {
					t.Errorf("kernel %d, by %v: the sample %d came back as %v, not %v", kernel, by, i, back.Data[i], z)
				}
			}
		}
	}
}

// P3.10
func TestMovedImagesAreFound(t *testing.T) {
	numbers := source(26)
	for _, by := range [][2]int{{0, 0}, {1, -2}, {-4, 4}, {3, 0}, {0, -1}} {
		first := numbers.image(28, 28, 500)
		second := moved(first, by[0], by[1])
		points, err := match.Offsets(pair(first, second), task(6, 6, 5, 4, 1000, 0))
		expectError(t, "Offsets", err, api.OK)
		want := 0
		for l := 0; l+6 <= 28; l += 5 {
			for s := 0; s+6 <= 28; s += 5 {
				if l+by[0] >= 0 && l+by[0]+6 <= 28 && s+by[1] >= 0 && s+by[1]+6 <= 28 {
					want++
				}
			}
		}
		expect(t, "the number of points", len(points), err, want, api.OK)
		for _, x := range points {
			expect(t, "the offset", x.By, api.OK, by, api.OK)
		}
		im, f, points, err := match.Register(pair(first, second), task(6, 6, 5, 4, 1000, 0), api.KernelCubic)
		expect(t, "the shift", f, err, whole(by[0], by[1]), api.OK)
		expect(t, "all points", len(points), err, want, api.OK)
		expect(t, "the image", im, err, moved(second, -by[0], -by[1]), api.OK)
	}
}
