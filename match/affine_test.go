package match_test

import (
	"math"
	"math/big"
	"slices"
	"testing"

	"swath/api"
	"swath/match"
)

// exampleShift is that of the third example.
func exampleShift() api.MatchAffine {
	return affine(10, [3]int{0, 0, 1}, [3]int{10, 1, 0})
}

func examplePoints() []api.MatchPoint {
	return []api.MatchPoint{point(0, 0, 0, 1), point(10, 0, 0, 2), point(0, 10, 1, 1)}
}

// P3.3
func TestFit(t *testing.T) {
	square := []api.MatchPoint{point(0, 0, 0, 0), point(0, 1, 0, 0), point(1, 0, 0, 0), point(1, 1, 1, -2)}
	for _, x := range []struct {
		what string
		l    []api.MatchPoint
		want api.MatchAffine
		err  api.Errno
	}{
		{"the third example", examplePoints(), exampleShift(), api.OK},
		{"a shift of 0", []api.MatchPoint{point(0, 0, 0, 0), point(9, 0, 0, 0), point(0, 7, 0, 0)}, affine(1, [3]int{}, [3]int{}), api.OK},
		{"a whole shift", []api.MatchPoint{point(5, 3, 2, -3), point(9, 1, 2, -3), point(0, 7, 2, -3)}, whole(2, -3), api.OK},
		{"a square with a raised corner", square, affine(4, [3]int{-1, 2, 2}, [3]int{2, -4, -4}), api.OK},
		{"only samples have a denominator", []api.MatchPoint{point(0, 0, 2, 0), point(3, 0, 2, 1), point(0, 1, 2, 0)}, affine(3, [3]int{6, 0, 0}, [3]int{0, 1, 0}), api.OK},
		{"a place that counts twice", []api.MatchPoint{point(0, 0, 0, 0), point(0, 0, 1, 0), point(1, 0, 0, 0), point(0, 1, 0, 0)}, affine(2, [3]int{1, -1, -1}, [3]int{}), api.OK},
		{"no points", nil, api.MatchAffine{}, api.ErrRank},
		{"a line", []api.MatchPoint{point(0, 0, 1, 1), point(1, 1, 1, 1), point(2, 2, 1, 1)}, api.MatchAffine{}, api.ErrRank},
		{"two points", examplePoints()[:2], api.MatchAffine{}, api.ErrRank},
	} {
		before := slices.Clone(x.l)
		got, err := match.Fit(x.l)
		expect(t, x.what, got, err, x.want, x.err)
		expect(t, x.what+", the points", x.l, api.OK, before, api.OK)
	}
}

func termsOf(f api.MatchAffine, axis int) [3]int {
	return [][3]int{f.Line, f.Sample}[axis]
}

// residuals are what a shift misses at points, over its denominator.
func residuals(f api.MatchAffine, l []api.MatchPoint, axis int) []*big.Int {
	var missed []*big.Int
	terms := termsOf(f, axis)
	for _, x := range l {
		told := terms[0] + terms[1]*x.Line + terms[2]*x.Sample
		missed = append(missed, big.NewInt(int64(x.By[axis]*f.Den-told)))
	}
	return missed
}

// P3.3: against the definition: the squares are least where what is missed adds up to 0, also when multiplied by the lines or the samples.
func TestFitByDefinition(t *testing.T) {
	numbers := source(5)
	for _, n := range []int{3, 4, 7, 30, 30} {
		for _, place := range []int{2, 5, 64} {
			for range 20 {
				l := numbers.points(n, place, api.MaxMatchOffset)
				f, err := match.Fit(l)
				if rank, _ := match.RankOf(l); rank != 3 {
					expect(t, "Fit", f, err, api.MatchAffine{}, api.ErrRank)
					continue
				}
				expectError(t, "Fit", err, api.OK)
				expectLeast(t, f, l)
				expectLowest(t, f)
				expectError(t, "CheckAffine of a fit", match.CheckAffine(f), api.OK)
			}
		}
	}
}

func expectLeast(t *testing.T, f api.MatchAffine, l []api.MatchPoint) {
	t.Helper()
	for axis := range 2 {
		missed := residuals(f, l, axis)
		for _, factor := range []func(api.MatchPoint) int{
			func(api.MatchPoint) int { return 1 },
			func(x api.MatchPoint) int { return x.Line },
			func(x api.MatchPoint) int { return x.Sample },
		} {
			sum := new(big.Int)
			for i, x := range l {
				sum.Add(sum, new(big.Int).Mul(missed[i], big.NewInt(int64(factor(x)))))
			}
			if sum.Sign() != 0 {
				t.Errorf("the fit %v of %v: the sum is %v", f, l, sum)
			}
		}
	}
}

// expectLowest tells that no number above 1 divides all terms and the denominator.
func expectLowest(t *testing.T, f api.MatchAffine) {
	t.Helper()
	divisor := big.NewInt(int64(f.Den))
	for axis := range 2 {
		for _, n := range termsOf(f, axis) {
			divisor.GCD(nil, nil, divisor, big.NewInt(int64(size(n))))
		}
	}
	if f.Den < 1 || divisor.Int64() != 1 {
		t.Errorf("%v is not in lowest terms", f)
	}
}

// P3.3
func TestCheckAffine(t *testing.T) {
	for _, x := range affineFaults() {
		expectError(t, "a shift with "+x.what, match.CheckAffine(x.f), api.ErrRange)
	}
	great := [3]int{api.MaxMatchTerm, -api.MaxMatchTerm, api.MaxMatchTerm}
	small := [3]int{-api.MaxMatchTerm, api.MaxMatchTerm, -api.MaxMatchTerm}
	for _, f := range []api.MatchAffine{whole(0, 0), affine(api.MaxMatchDen, great, small), affine(1, small, great), affine(4, [3]int{2, 2, 2}, [3]int{})} {
		expectError(t, "a shift", match.CheckAffine(f), api.OK)
	}
}

// P3.3, P3.4: the errors of shifts, with further arguments that are wrong too.
func TestErrorsOfAffines(t *testing.T) {
	for _, x := range affineFaults() {
		by, err := match.ShiftAt(x.f, -1, 64)
		expect(t, "ShiftAt: "+x.what, by, err, [2]int{}, api.ErrRange)
		worst, err := match.Worst(x.f, nil)
		expect(t, "Worst: "+x.what, worst, err, 0, api.ErrRange)
		worst, err = match.Worst(x.f, manyPoints(31))
		expect(t, "Worst of 31 points: "+x.what, worst, err, 0, api.ErrRange)
		im, err := match.Resampled(line(1), resample(0, 1, 1, x.f))
		expect(t, "Resampled: "+x.what, im, err, api.RadarImage{}, api.ErrRange)
		f, err := match.ParseAffine(match.FormatAffine(x.f))
		if err != api.ErrRange && err != api.ErrSyntax {
			t.Errorf("ParseAffine: %s: error %d", x.what, err)
		}
		expect(t, "ParseAffine: "+x.what, f, api.OK, api.MatchAffine{}, api.OK)
	}
}

// P3.3
func TestShiftAt(t *testing.T) {
	great := [3]int{api.MaxMatchTerm, api.MaxMatchTerm, api.MaxMatchTerm}
	small := [3]int{-api.MaxMatchTerm, -api.MaxMatchTerm, -api.MaxMatchTerm}
	for _, x := range []struct {
		what         string
		f            api.MatchAffine
		line, sample int
		want         [2]int
		err          api.Errno
	}{
		{"the third example", exampleShift(), 5, 8, [2]int{13, 24}, api.OK},
		{"no place but the first one", exampleShift(), 0, 0, [2]int{0, 16}, api.OK},
		{"whole shifts", whole(-3, 7), 63, 63, [2]int{-48, 112}, api.OK},
		{"a half upwards", affine(32, [3]int{17, 0, 0}, [3]int{-17, 0, 0}), 0, 0, [2]int{9, -8}, api.OK},
		{"less than a half", affine(100, [3]int{53, 0, 0}, [3]int{-53, 0, 0}), 0, 0, [2]int{8, -8}, api.OK},
		{"more than a half", affine(100, [3]int{54, 0, 0}, [3]int{-54, 0, 0}), 0, 0, [2]int{9, -9}, api.OK},
		{"terms that are not the lowest", affine(4, [3]int{2, 0, 0}, [3]int{0, 2, 2}), 1, 2, [2]int{8, 24}, api.OK},
		{"the greatest terms", affine(1, great, small), 63, 63, [2]int{2032e15, -2032e15}, api.OK},
		{"the greatest denominator", affine(api.MaxMatchDen, great, small), 63, 63, [2]int{2032000, -2032000}, api.OK},
		{"a line below 0", exampleShift(), -1, 0, [2]int{}, api.ErrRange},
		{"the line 64", exampleShift(), 64, 0, [2]int{}, api.ErrRange},
		{"a sample below 0", exampleShift(), 0, -1, [2]int{}, api.ErrRange},
		{"the sample 64", exampleShift(), 0, 64, [2]int{}, api.ErrRange},
		{"the greatest place of all", exampleShift(), math.MaxInt, math.MinInt, [2]int{}, api.ErrRange},
	} {
		got, err := match.ShiftAt(x.f, x.line, x.sample)
		expect(t, x.what, got, err, x.want, x.err)
	}
}

// sixteenthsOf is the definition of the shift at a place.
func sixteenthsOf(f api.MatchAffine, line, sample int) [2]int {
	var by [2]int
	for axis := range by {
		terms := termsOf(f, axis)
		by[axis] = nearest(fractionOf(16*(terms[0]+terms[1]*line+terms[2]*sample), f.Den))
	}
	return by
}

func (s *source) affine(den, term int) api.MatchAffine {
	f := affine(s.from(1, den), [3]int{}, [3]int{})
	for i := range 3 {
		f.Line[i], f.Sample[i] = s.from(-term, term), s.from(-term, term)
	}
	return f
}

// P3.3: against the definition.
func TestShiftAtByDefinition(t *testing.T) {
	numbers := source(6)
	for _, size := range [][2]int{{3, 9}, {32, 40}, {1000, 1000}, {1000000, 100000000}} {
		for range 100 {
			f := numbers.affine(size[0], size[1])
			l, s := numbers.below(64), numbers.below(64)
			got, err := match.ShiftAt(f, l, s)
			expect(t, "ShiftAt", got, err, sixteenthsOf(f, l, s), api.OK)
		}
	}
}

// P3.3
func TestWorst(t *testing.T) {
	great := [3]int{api.MaxMatchTerm, api.MaxMatchTerm, api.MaxMatchTerm}
	for _, x := range []struct {
		what string
		f    api.MatchAffine
		l    []api.MatchPoint
		want int
		err  api.Errno
	}{
		{"one point", whole(0, 0), offsetsOf([2]int{1, 2}), 0, api.OK},
		{"in lines", whole(0, 0), offsetsOf([2]int{1, 2}, [2]int{3, 0}, [2]int{2, 2}), 1, api.OK},
		{"in samples", whole(0, 0), offsetsOf([2]int{1, 2}, [2]int{2, 2}, [2]int{2, -3}), 2, api.OK},
		{"the first one of equal ones", whole(0, 0), offsetsOf([2]int{1, 0}, [2]int{0, -2}, [2]int{2, 0}, [2]int{-2, 2}), 1, api.OK},
		{"the greater difference, not the sum", whole(0, 0), offsetsOf([2]int{2, 2}, [2]int{3, 0}), 1, api.OK},
		{"all right", whole(1, 1), offsetsOf([2]int{1, 1}, [2]int{1, 1}), 0, api.OK},
		{"the fourth example", exampleShift(), append(examplePoints(), point(10, 10, 1, 3)), 3, api.OK},
		{"less than a sixteenth", affine(100, [3]int{0, 0, 0}, [3]int{1, 0, 1}), []api.MatchPoint{point(0, 0, 0, 0), point(0, 1, 0, 0), point(1, 0, 0, 0)}, 1, api.OK},
		{"the greatest terms", affine(api.MaxMatchDen, great, great), []api.MatchPoint{point(0, 0, 0, 0), point(63, 62, 8, 8), point(63, 63, -8, 8), point(63, 63, 8, 8)}, 2, api.OK},
		{"no points", whole(0, 0), nil, 0, api.ErrShape},
	} {
		got, err := match.Worst(x.f, x.l)
		expect(t, x.what, got, err, x.want, x.err)
	}
}

// P3.3: against the definition.
func TestWorstByDefinition(t *testing.T) {
	numbers := source(7)
	for range 200 {
		f, l := numbers.affine(5, 9), numbers.points(numbers.from(1, 30), 4, 8)
		want, worst := 0, big.NewInt(-1)
		for i := range l {
			for axis := range 2 {
				if missed := residuals(f, l, axis)[i]; missed.CmpAbs(worst) > 0 || worst.Sign() < 0 {
					want, worst = i, missed.Abs(missed)
				}
			}
		}
		got, err := match.Worst(f, l)
		expect(t, "Worst", got, err, want, api.OK)
	}
}
