package series_test

import (
	"math"
	"math/big"
	"testing"

	"swath/api"
	"swath/series"
)

// singular are series that several fits suit.
func singular() []api.SeriesPoint {
	return []api.SeriesPoint{
		example([3]int{0, 0, 0}, [3]int{0, 30, 40}),
		example([3]int{0, 10, 20}, [3]int{0, 30, 40}),
		example([3]int{-3, 2, 7}, [3]int{0, 30, 40}),
		example([3]int{9, 9, 9}, [3]int{16000, -16000, 15999}),
		seriesOf(epoch(0, 0, 0, 0)),
		seriesOf(epoch(0, 5, 0, 0), epoch(400, -100, 0, 0)),
		seriesOf(dates(20)...),
	}
}

// P8.2
func TestSolve(t *testing.T) {
	for _, x := range []struct {
		what string
		s    api.SeriesPoint
		want [3]api.Frac
		err  api.Errno
	}{
		{"the first example", firstExample(), [3]api.Frac{whole(2), whole(1), whole(0)}, api.OK},
		{"the second example", example([3]int{0, 10, 0}, [3]int{0, 30, 41}), [3]api.Frac{fraction(41, 20), fraction(19, 20), whole(0)}, api.OK},
		{"the fifth example", example([3]int{0, 10, 0}, [3]int{-30, 0, 10}), [3]api.Frac{whole(2), whole(1), whole(-30)}, api.OK},
		{"phases of 0", example([3]int{0, 10, 0}, [3]int{}), [3]api.Frac{whole(0), whole(0), whole(0)}, api.OK},
		{"a late first day", seriesOf(epoch(99980, 0, 0, 0), epoch(99990, 10, 30, 0), epoch(100000, 0, 40, 0)), [3]api.Frac{whole(2), whole(1), whole(0)}, api.OK},
		{"what no fit has", seriesOf(epoch(0, 0, 1, 0), epoch(1, 1, 0, 0), epoch(2, 1, 0, 0), epoch(3, 0, -1, 0)), [3]api.Frac{fraction(-3, 5), whole(0), fraction(9, 10)}, api.OK},
		{"a great denominator", greatSeries()[26], [3]api.Frac{}, api.ErrLarge},
	} {
		before := copyOf(x.s)
		got, err := series.Solve(x.s)
		expect(t, x.what, got, err, x.want, x.err)
		expect(t, x.what+", the series", x.s, api.OK, before, api.OK)
	}
	for _, s := range singular() {
		got, err := series.Solve(s)
		expect(t, "several fits", got, err, [3]api.Frac{}, api.ErrRank)
	}
}

// P8.2: a fraction may be as great as 10^9, and no greater.
func TestSmallFractions(t *testing.T) {
	den := seriesOf(epoch(0, 37, -1, 0), epoch(27, 27, 1, 0), epoch(63, 5, 0, 0), epoch(87, -28, -1, 0), epoch(125, -46, 1, 0), epoch(142, 84, -1, 0))
	greater := seriesOf(epoch(0, -9, 1, 0), epoch(36, -30, -1, 0), epoch(65, 43, -1, 0), epoch(104, 47, -1, 0), epoch(140, -39, 1, 0), epoch(175, -46, 0, 0))
	all, err := series.Solve(den)
	expect(t, "a denominator of 10^9", all, err, [3]api.Frac{fraction(-827279, 1000000000), fraction(-225817, 25000000), fraction(6741133, 500000000)}, api.OK)
	all, err = series.Solve(greater)
	expect(t, "a denominator of the constant alone that is greater than 10^9", all, err, [3]api.Frac{}, api.ErrLarge)
	for _, x := range []struct {
		days, phases [4]int
		want         [2]api.Frac
		err          api.Errno
	}{
		{[4]int{0, 91, 210, 300}, [4]int{629, 4404, 5641, -11420}, [2]api.Frac{fraction(-6914158, 208323), fraction(1000000000, 208323)}, api.OK},
		{[4]int{0, 53, 158, 192}, [4]int{14897, -425, 12810, -3388}, [2]api.Frac{}, api.ErrLarge},
		{[4]int{0, 98, 228, 295}, [4]int{-13468, 14314, -13362, 4648}, [2]api.Frac{fraction(3795612, 208811), fraction(-1000000000, 208811)}, api.OK},
		{[4]int{0, 86, 107, 192}, [4]int{-14660, -5508, 11268, 12211}, [2]api.Frac{}, api.ErrLarge},
	} {
		s := seriesOf()
		for i, day := range x.days {
			s.Epochs = append(s.Epochs, epoch(day, 0, x.phases[i], 0))
		}
		both, err := series.SolveOnly(s, api.SeriesVelocity)
		expect(t, "a numerator of 10^9, or of one more", both, err, x.want, x.err)
	}
}

// P8.2: against fits by elimination, with fractions of any size.
func TestSolveByDefinition(t *testing.T) {
	seen := map[api.Errno]int{}
	for _, s := range randomSeries(3) {
		got, err := series.Solve(s)
		fit, ok := leastSquares(rows(s), phases(s))
		want, wantErr := small(fit)
		if !ok {
			want, wantErr = nil, api.ErrRank
		}
		expect(t, "Solve", got[:], err, padded(want, 3), wantErr)
		seen[err]++
	}
	if seen[api.OK] < 30 || seen[api.ErrRank] < 30 || seen[api.ErrLarge] < 30 {
		t.Errorf("so many of each error: %v", seen)
	}
}

// P8.2
func TestSolveOnly(t *testing.T) {
	for _, x := range []struct {
		what      string
		s         api.SeriesPoint
		parameter int
		want      [2]api.Frac
		err       api.Errno
	}{
		{"the fourth example", firstExample(), api.SeriesVelocity, [2]api.Frac{whole(2), fraction(10, 3)}, api.OK},
		{"the height of the first example", firstExample(), api.SeriesHeight, [2]api.Frac{whole(1), whole(20)}, api.OK},
		{"the velocity without bases", example([3]int{}, [3]int{0, 30, 40}), api.SeriesVelocity, [2]api.Frac{whole(2), fraction(10, 3)}, api.OK},
		{"the height without bases", example([3]int{}, [3]int{0, 30, 40}), api.SeriesHeight, [2]api.Frac{}, api.ErrRank},
		{"the height of one base", example([3]int{7, 7, 7}, [3]int{0, 30, 40}), api.SeriesHeight, [2]api.Frac{}, api.ErrRank},
		{"the velocity of two dates", seriesOf(epoch(7, 3, 1, 0), epoch(9, 3, -4, 0)), api.SeriesVelocity, [2]api.Frac{fraction(-5, 2), whole(1)}, api.OK},
		{"the height of two dates", seriesOf(epoch(7, 3, 1, 0), epoch(9, 5, -4, 0)), api.SeriesHeight, [2]api.Frac{fraction(-5, 2), fraction(17, 2)}, api.OK},
		{"the velocity of one date", seriesOf(epoch(7, 3, 1, 0)), api.SeriesVelocity, [2]api.Frac{}, api.ErrRank},
		{"the height of one date", seriesOf(epoch(7, 3, 1, 0)), api.SeriesHeight, [2]api.Frac{}, api.ErrRank},
		{"the constant", firstExample(), api.SeriesConstant, [2]api.Frac{}, api.ErrKind},
		{"no parameter", firstExample(), 3, [2]api.Frac{}, api.ErrKind},
		{"a parameter below 0", firstExample(), -1, [2]api.Frac{}, api.ErrKind},
		{"no parameter of one date", seriesOf(epoch(7, 3, 1, 0)), math.MaxInt, [2]api.Frac{}, api.ErrKind},
		{"the constant of one date", seriesOf(epoch(7, 3, 1, 0)), 2, [2]api.Frac{}, api.ErrKind},
	} {
		before := copyOf(x.s)
		got, err := series.SolveOnly(x.s, x.parameter)
		expect(t, x.what, got, err, x.want, x.err)
		expect(t, x.what+", the series", x.s, api.OK, before, api.OK)
	}
}

// P8.2
func TestSolveOnlyByDefinition(t *testing.T) {
	seen := map[api.Errno]int{}
	for _, s := range randomSeries(4) {
		for _, parameter := range []int{api.SeriesVelocity, api.SeriesHeight} {
			got, err := series.SolveOnly(s, parameter)
			fit, ok := leastSquares(only(rows(s), parameter, api.SeriesConstant), phases(s))
			want, wantErr := small(fit)
			if !ok {
				want, wantErr = nil, api.ErrRank
			}
			expect(t, "SolveOnly", got[:], err, padded(want, 2), wantErr)
			seen[err]++
		}
	}
	if seen[api.OK] < 30 || seen[api.ErrRank] < 30 || seen[api.ErrLarge] < 3 {
		t.Errorf("so many of each error: %v", seen)
	}
}

// P8.2
func TestResiduals(t *testing.T) {
	for _, x := range []struct {
		what string
		s    api.SeriesPoint
		want []api.Frac
		err  api.Errno
	}{
		{"the first example", firstExample(), []api.Frac{whole(0), whole(0), whole(0)}, api.OK},
		{"what no fit has", seriesOf(epoch(0, 0, 1, 0), epoch(1, 1, 0, 0), epoch(2, 1, 0, 0), epoch(3, 0, -1, 0)), []api.Frac{fraction(1, 10), fraction(-3, 10), fraction(3, 10), fraction(-1, 10)}, api.OK},
		{"a great denominator", greatSeries()[26], nil, api.ErrLarge},
	} {
		before := copyOf(x.s)
		got, err := series.Residuals(x.s)
		expect(t, x.what, got, err, x.want, x.err)
		expect(t, x.what+", the series", x.s, api.OK, before, api.OK)
	}
	for _, s := range singular() {
		got, err := series.Residuals(s)
		expect(t, "several fits", got, err, nil, api.ErrRank)
	}
}

// P8.2
func TestResidualsByDefinition(t *testing.T) {
	seen := map[api.Errno]int{}
	for _, s := range randomSeries(5) {
		got, err := series.Residuals(s)
		fit, ok := leastSquares(rows(s), phases(s))
		if !ok {
			expect(t, "Residuals", got, err, nil, api.ErrRank)
			continue
		}
		want, wantErr := small(missed(rows(s), phases(s), fit))
		expect(t, "Residuals", got, err, want, wantErr)
		seen[err]++
	}
	if seen[api.OK] < 30 || seen[api.ErrLarge] < 30 {
		t.Errorf("so many of each error: %v", seen)
	}
}

// P8.2
func TestPredicted(t *testing.T) {
	late := seriesOf(epoch(99980, 0, 0, 0), epoch(99990, 10, 30, 0), epoch(100000, 0, 40, 0))
	for _, x := range []struct {
		what      string
		s         api.SeriesPoint
		day, base int
		want      api.Frac
		err       api.Errno
	}{
		{"a date of the first example", firstExample(), 10, 10, whole(30), api.OK},
		{"another date of it", firstExample(), 20, 0, whole(40), api.OK},
		{"a day between", firstExample(), 13, -7, whole(19), api.OK},
		{"the first day", firstExample(), 0, 0, whole(0), api.OK},
		{"the last day that may be asked", firstExample(), 400, 100, whole(900), api.OK},
		{"the least base", firstExample(), 0, -100, whole(-100), api.OK},
		{"a day that is behind all days", late, 100380, 0, whole(800), api.OK},
		{"a fraction", example([3]int{0, 10, 0}, [3]int{0, 30, 41}), 1, 1, whole(3), api.OK},
		{"a fraction in lowest terms", example([3]int{0, 10, 0}, [3]int{0, 30, 41}), 2, 1, fraction(101, 20), api.OK},
		{"a day before the first one", firstExample(), -1, 0, api.Frac{}, api.ErrRange},
		{"a day before a late first one", late, 99979, 0, api.Frac{}, api.ErrRange},
		{"a day that is too late", firstExample(), 401, 0, api.Frac{}, api.ErrRange},
		{"a day that is too late behind a late one", late, 100381, 0, api.Frac{}, api.ErrRange},
		{"a base that is too great", firstExample(), 0, 101, api.Frac{}, api.ErrRange},
		{"a base that is too small", firstExample(), 0, -101, api.Frac{}, api.ErrRange},
		{"a day without end", firstExample(), math.MaxInt, 0, api.Frac{}, api.ErrRange},
		{"a base without end", firstExample(), 0, math.MinInt, api.Frac{}, api.ErrRange},
		{"a great denominator", greatSeries()[26], 99999, 0, api.Frac{}, api.ErrLarge},
		{"a day before the first one, and a great denominator", greatSeries()[26], 0, 0, api.Frac{}, api.ErrRange},
	} {
		before := copyOf(x.s)
		got, err := series.Predicted(x.s, x.day, x.base)
		expect(t, x.what, got, err, x.want, x.err)
		expect(t, x.what+", the series", x.s, api.OK, before, api.OK)
	}
	for _, s := range singular() {
		got, err := series.Predicted(s, s.Epochs[0].Day, 0)
		expect(t, "several fits", got, err, api.Frac{}, api.ErrRank)
		got, err = series.Predicted(s, s.Epochs[0].Day-1, 0)
		expect(t, "several fits, and no such day", got, err, api.Frac{}, api.ErrRange)
	}
}

// P8.2
func TestPredictedByDefinition(t *testing.T) {
	numbers := source(6)
	seen := map[api.Errno]int{}
	for _, s := range randomSeries(6) {
		for i := range 4 {
			t0, base := []int{0, 400, numbers.from(0, 400)}[i%3], []int{100, -100, numbers.from(-100, 100)}[numbers.below(3)]
			got, err := series.Predicted(s, s.Epochs[0].Day+t0, base)
			fit, ok := leastSquares(rows(s), phases(s))
			if !ok {
				expect(t, "Predicted", got, err, api.Frac{}, api.ErrRank)
				continue
			}
			want, wantErr := small([]*big.Rat{dot(fit, numbersOf(t0, base, 1))})
			expect(t, "Predicted", []api.Frac{got}, err, padded(want, 1), wantErr)
			seen[err]++
		}
	}
	if seen[api.OK] < 30 || seen[api.ErrLarge] < 30 {
		t.Errorf("so many of each error: %v", seen)
	}
}

// P8.2
func TestSquaresOf(t *testing.T) {
	for _, x := range []struct {
		what string
		s    api.SeriesPoint
		x    [3]int
		want int
		err  api.Errno
	}{
		{"the fit of the first example", firstExample(), [3]int{2, 1, 0}, 0, api.OK},
		{"no model", firstExample(), [3]int{}, 2500, api.OK},
		{"a velocity", firstExample(), [3]int{1, 0, 0}, 800, api.OK},
		{"a height", firstExample(), [3]int{0, 1, 0}, 2000, api.OK},
		{"a constant", firstExample(), [3]int{0, 0, -1}, 1 + 31*31 + 41*41, api.OK},
		{"one date", seriesOf(epoch(9, 5, 7, 1)), [3]int{100, 2, 1}, 16, api.OK},
		{"a late first day", seriesOf(epoch(99980, 0, 0, 0), epoch(99990, 10, 30, 0), epoch(100000, 0, 40, 0)), [3]int{2, 1, 0}, 0, api.OK},
		{"the greatest parameters", firstExample(), [3]int{100, 100, 1000000}, 1000000*1000000 + 1001970*1001970 + 1001960*1001960, api.OK},
		{"the least parameters", firstExample(), [3]int{-100, -100, -1000000}, 1000000*1000000 + 1002030*1002030 + 1002040*1002040, api.OK},
		{"a velocity that is too great", firstExample(), [3]int{101, 0, 0}, 0, api.ErrRange},
		{"a velocity that is too small", firstExample(), [3]int{-101, 0, 0}, 0, api.ErrRange},
		{"a height that is too great", firstExample(), [3]int{0, 101, 0}, 0, api.ErrRange},
		{"a height that is too small", firstExample(), [3]int{0, -101, 0}, 0, api.ErrRange},
		{"a constant that is too great", firstExample(), [3]int{0, 0, 1000001}, 0, api.ErrRange},
		{"a constant that is too small", firstExample(), [3]int{0, 0, -1000001}, 0, api.ErrRange},
		{"parameters without end", firstExample(), [3]int{math.MinInt, math.MinInt, math.MinInt}, 0, api.ErrRange},
		{"a constant without end", firstExample(), [3]int{0, 0, math.MaxInt}, 0, api.ErrRange},
	} {
		before := copyOf(x.s)
		got, err := series.SquaresOf(x.s, x.x)
		expect(t, x.what, got, err, x.want, x.err)
		expect(t, x.what+", the series", x.s, api.OK, before, api.OK)
	}
}

// P8.2
func TestSquaresOfByDefinition(t *testing.T) {
	numbers := source(7)
	for _, s := range randomSeries(7) {
		for _, x := range [][3]int{
			{100, 100, 1000000},
			{-100, 100, -1000000},
			{numbers.from(-100, 100), numbers.from(-100, 100), numbers.from(-1000000, 1000000)},
			{numbers.from(-9, 9), numbers.from(-9, 9), numbers.from(-99, 99)},
		} {
			l := missed(rows(s), phases(s), numbersOf(x[:]...))
			got, err := series.SquaresOf(s, x)
			expect(t, "SquaresOf", got, err, down(dot(l, l)), api.OK)
		}
	}
}

// P8.3
func TestVelocityRange(t *testing.T) {
	thirds := seriesOf(epoch(0, 0, 1, 0), epoch(1, 1, 0, 0), epoch(3, 0, -1, 0))
	for _, x := range []struct {
		what string
		s    api.SeriesPoint
		want api.Range
		err  api.Errno
	}{
		{"the sixth example", withMargin(firstExample(), 1), span(1900, 2100), api.OK},
		{"no margins", firstExample(), span(2000, 2000), api.OK},
		{"no margins, and no whole number", thirds, span(-667, -666), api.OK},
		{"a margin at a date that does not tell the velocity", seriesOf(epoch(0, 0, 0, 0), epoch(10, 10, 30, 2048), epoch(20, 0, 40, 0)), span(2000, 2000), api.OK},
		{"a margin at the first date", seriesOf(epoch(0, 0, 0, 3), epoch(10, 10, 30, 0), epoch(20, 0, 40, 0)), span(1850, 2150), api.OK},
		{"a margin at the last date", seriesOf(epoch(0, 0, 0, 0), epoch(10, 10, 30, 0), epoch(30, 0, 40, 1)), span(1300, 1367), api.OK},
		{"a phase that is as great as it may be", seriesOf(epoch(0, 0, -16000, 2048), epoch(1, 1, 0, 0), epoch(2, 0, 16000, 2048)), span(13952000, 18048000), api.OK},
	} {
		before := copyOf(x.s)
		got, err := series.VelocityRange(x.s)
		expect(t, x.what, got, err, x.want, x.err)
		expect(t, x.what+", the series", x.s, api.OK, before, api.OK)
	}
	for _, s := range singular() {
		got, err := series.VelocityRange(withMargin(s, 7))
		expect(t, "several fits", got, err, api.Range{}, api.ErrRank)
	}
}

// velocityOf gives the velocity of the fit.
func velocityOf(s api.SeriesPoint, phases []*big.Rat) (*big.Rat, bool) {
	fit, ok := leastSquares(rows(s), phases)
	if !ok {
		return nil, false
	}
	return fit[api.SeriesVelocity], true
}

// extremes gives the least and the greatest velocity with all phases at an end of their margins.
func extremes(s api.SeriesPoint) (least, greatest *big.Rat, ok bool) {
	for signs := range 1 << len(s.Epochs) {
		l := phases(s)
		for i, x := range s.Epochs {
			l[i].Add(l[i], numbersOf((signs>>i%2*2 - 1) * x.Margin)[0])
		}
		velocity, ok := velocityOf(s, l)
		if !ok {
			return nil, nil, false
		}
		if least == nil || velocity.Cmp(least) < 0 {
			least = velocity
		}
		if greatest == nil || velocity.Cmp(greatest) > 0 {
			greatest = velocity
		}
	}
	return least, greatest, true
}

// P8.3: the velocity is linear, so it is least and greatest where all phases are at an end of their margins.
func TestVelocityRangeOfAllPhases(t *testing.T) {
	numbers := source(8)
	count := 0
	for i := range 60 {
		s := numbers.series(numbers.from(3, 6), []int{20, 400}[i%2], []int{2, 100}[i/2%2], []int{9, 16000}[i/4%2])
		for k := range s.Epochs {
			s.Epochs[k].Margin %= []int{4, 2049}[i/8%2]
		}
		got, err := series.VelocityRange(s)
		least, greatest, ok := extremes(s)
		if !ok {
			expect(t, "VelocityRange", got, err, api.Range{}, api.ErrRank)
			continue
		}
		expect(t, "VelocityRange", got, err, span(down(scaled(least, 1000)), up(scaled(greatest, 1000))), api.OK)
		count++
	}
	if count < 40 {
		t.Errorf("%d series with a velocity", count)
	}
}

// P8.3: with weights that are the velocities of one phase of 1 each.
func TestVelocityRangeOfManyDates(t *testing.T) {
	for _, s := range randomSeries(9) {
		got, err := series.VelocityRange(s)
		velocity, ok := velocityOf(s, phases(s))
		if !ok {
			expect(t, "VelocityRange", got, err, api.Range{}, api.ErrRank)
			continue
		}
		away := new(big.Rat)
		for i, x := range s.Epochs {
			single := make([]int, len(s.Epochs))
			single[i] = x.Margin
			weight, _ := velocityOf(s, numbersOf(single...))
			away.Add(away, weight.Abs(weight))
		}
		least, greatest := new(big.Rat).Sub(velocity, away), new(big.Rat).Add(velocity, away)
		expect(t, "VelocityRange", got, err, span(down(scaled(least, 1000)), up(scaled(greatest, 1000))), api.OK)
	}
}
