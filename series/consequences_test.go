package series_test

import (
	"math/big"
	"testing"

	"swath/api"
	"swath/series"
)

// smallSeries are series whose fits have small fractions.
func smallSeries(seed int) []api.SeriesPoint {
	numbers := source(seed)
	var l []api.SeriesPoint
	for len(l) < 150 {
		s := numbers.series(numbers.from(3, 9), []int{20, 60}[len(l)%2], 6, 50)
		if _, err := series.Solve(s); err == api.OK {
			l = append(l, s)
		}
	}
	return l
}

// P8.8
func TestOrthogonalResiduals(t *testing.T) {
	for _, s := range smallSeries(15) {
		residuals, err := series.Residuals(s)
		expectError(t, "Residuals", err, api.OK)
		sums := [3]*big.Rat{{}, {}, {}}
		for i, x := range residuals {
			for parameter, factor := range rows(s)[i] {
				sums[parameter].Add(sums[parameter], new(big.Rat).Mul(rat(x), factor))
			}
		}
		for parameter, sum := range sums {
			if sum.Sign() != 0 {
				t.Errorf("%v: the residuals times the factors of %d sum up to %v", s, parameter, sum)
			}
		}
	}
}

// across gives what is orthogonal to all three columns of the model of four dates.
func across(s api.SeriesPoint) [4]int {
	var l [4]int
	for left := range l {
		var m [][3]int
		for i, x := range s.Epochs {
			if i != left {
				m = append(m, [3]int{x.Day - s.Epochs[0].Day, x.Base, 1})
			}
		}
		sum := 0
		for i := range 3 {
			sum += m[0][i] * (m[1][(i+1)%3]*m[2][(i+2)%3] - m[1][(i+2)%3]*m[2][(i+1)%3])
		}
		l[left] = sum * (1 - left%2*2)
	}
	return l
}

// P8.8: the phases are those of whole parameters, and what no fit has.
func TestWholeFits(t *testing.T) {
	numbers := source(16)
	count := 0
	for count < 60 {
		s := numbers.series(4, 20, 5, 0)
		want := [3]int{numbers.from(-97, 97), numbers.from(-97, 97), numbers.from(-900, 900)}
		beside := across(s)
		for i, x := range s.Epochs {
			s.Epochs[i].Phase = want[0]*(x.Day-s.Epochs[0].Day) + want[1]*x.Base + want[2] + beside[i]
		}
		got, err := series.Solve(s)
		if err == api.ErrRank {
			continue
		}
		count++
		expect(t, "Solve", got, err, [3]api.Frac{whole(want[0]), whole(want[1]), whole(want[2])}, api.OK)
		residuals, err := series.Residuals(s)
		expect(t, "Residuals", residuals, err, []api.Frac{whole(beside[0]), whole(beside[1]), whole(beside[2]), whole(beside[3])}, api.OK)
		least, err := series.SquaresOf(s, want)
		expect(t, "SquaresOf", least, err, beside[0]*beside[0]+beside[1]*beside[1]+beside[2]*beside[2]+beside[3]*beside[3], api.OK)
		for i := range 7 * 7 * 7 {
			other := [3]int{want[0] + i%7 - 3, want[1] + i/7%7 - 3, want[2] + i/49 - 3}
			sum, err := series.SquaresOf(s, other)
			if err != api.OK || sum < least || sum == least && other != want {
				t.Errorf("%v with %v: %d, error %d; the fit %v has %d", s, other, sum, err, want, least)
			}
		}
	}
}

// P8.9
func TestDatumOfFits(t *testing.T) {
	for _, s := range smallSeries(17) {
		fit, _ := series.Solve(s)
		residuals, _ := series.Residuals(s)
		for i, x := range s.Epochs {
			with, err := series.Datum(withMargin(s, 7), i)
			expectError(t, "Datum", err, api.OK)
			got, err := series.Solve(with)
			constant := new(big.Rat).Sub(rat(fit[2]), numbersOf(x.Phase)[0])
			l, _ := small([]*big.Rat{constant})
			expect(t, "Solve of another datum", got, err, [3]api.Frac{fit[0], fit[1], l[0]}, api.OK)
			gotResiduals, err := series.Residuals(with)
			expect(t, "Residuals of another datum", gotResiduals, err, residuals, api.OK)
		}
	}
}

// P8.10
func TestDetermined(t *testing.T) {
	for _, s := range randomSeries(18) {
		before := 0
		for count := 1; count <= len(s.Epochs); count++ {
			rank, l, err := series.RankOf(named(s.Name, s.Epochs[:count]...))
			expectError(t, "RankOf", err, api.OK)
			if rank < before || rank > before+1 || (rank == 3) != (len(l) == 0) {
				t.Errorf("%v has the rank %d behind %d, and without %v", s.Epochs[:count], rank, before, l)
			}
			before = rank
		}
		_, err := series.VelocityRange(s)
		expect(t, "whether there is a velocity", err == api.OK, api.OK, before == 3, api.OK)
	}
}

// P8.11
func TestVelocityRangesHaveVelocities(t *testing.T) {
	for _, s := range smallSeries(19) {
		got, err := series.VelocityRange(s)
		expectError(t, "VelocityRange", err, api.OK)
		fit, _ := series.Solve(s)
		expectWithin(t, "1000 times the velocity", scaled(rat(fit[0]), 1000), got)
		for i := range s.Epochs {
			wider := copyOf(s)
			wider.Epochs[i].Margin = min(wider.Epochs[i].Margin+1+i%3*40, 2048)
			wide, err := series.VelocityRange(wider)
			if err != api.OK || wide.Lo > got.Lo || wide.Hi < got.Hi {
				t.Errorf("%v has the velocities %v, %v with greater margins", s, got, wide)
			}
		}
	}
}

func expectWithin(t *testing.T, what string, x *big.Rat, within api.Range) {
	t.Helper()
	if down(x) < within.Lo || up(x) > within.Hi {
		t.Errorf("%s: %v is not within %v", what, x, within)
	}
}

// P8.11
func TestMovementsWithinMargins(t *testing.T) {
	numbers := source(20)
	for i := range 500 {
		x := numbers.moved([]int{50, 100000000}[i%2], []int{3, 2048}[i/2%2], []int{9, 10000}[i/4%2])
		got, err := series.Moved(x)
		expectError(t, "Moved", err, api.OK)
		for _, first := range []int{-x.FirstMargin, 0, numbers.from(-x.FirstMargin, x.FirstMargin), x.FirstMargin} {
			for _, second := range []int{-x.SecondMargin, 0, numbers.from(-x.SecondMargin, x.SecondMargin), x.SecondMargin} {
				change := x.Second + second - x.First - first
				expectWithin(t, "a movement", big.NewRat(int64(-change*x.Wave), 8192), got)
			}
		}
		threshold := []int{numbers.from(1, 9), sizeOf(got.Lo), sizeOf(got.Hi), numbers.from(1, 1000000000)}[numbers.below(4)]
		answer, err := series.Exceeds(x, threshold)
		expectError(t, "Exceeds", err, api.OK)
		lesser, err := series.Exceeds(x, numbers.from(0, threshold))
		if err != api.OK || lesser < answer {
			t.Errorf("%v exceeds %d: %d, a lesser threshold: %d", x, threshold, answer, lesser)
		}
	}
}

// P8.12
func TestBoxesHaveMovements(t *testing.T) {
	numbers := source(21)
	count := 0
	for count < 500 {
		x := tracks(numbers.sight(1000, 0, 0), numbers.sight(1000, 0, 0))
		up, east := numbers.from(-100000, 100000), numbers.from(-100000, 100000)
		for _, track := range []*api.TrackSight{&x.First, &x.Second} {
			sees := track.Up*up + track.East*east
			track.Moved.Lo = down(big.NewRat(int64(sees), 1000)) - numbers.below(3)*numbers.below(50)
			track.Moved.Hi = -down(big.NewRat(int64(-sees), 1000)) + numbers.below(3)*numbers.below(50)
		}
		box, err := series.UpAndEastBox(x)
		if err == api.ErrRank {
			continue
		}
		count++
		expectError(t, "UpAndEastBox", err, api.OK)
		expectWithin(t, "the movement upwards", numbersOf(up)[0], box[0])
		expectWithin(t, "the movement to the east", numbersOf(east)[0], box[1])
		if middle, err := series.UpAndEast(x); err == api.OK {
			expectWithin(t, "the middle upwards", rat(middle[0]), box[0])
			expectWithin(t, "the middle to the east", rat(middle[1]), box[1])
		}
	}
}
