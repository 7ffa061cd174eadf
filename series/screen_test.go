package series_test

import (
	"math"
	"math/big"
	"slices"
	"testing"

	"swath/api"
	"swath/series"
)

func at(x, y, height, phase int) api.ScreenPoint {
	return api.ScreenPoint{X: x, Y: y, Height: height, Phase: phase}
}

func screen(points ...api.ScreenPoint) []api.ScreenPoint { return points }

// ofHeights gives points with heights and phases alone.
func ofHeights(numbers ...[2]int) []api.ScreenPoint {
	var l []api.ScreenPoint
	for _, n := range numbers {
		l = append(l, at(0, 0, n[0], n[1]))
	}
	return l
}

func (s *source) screen(count, away, phase int) []api.ScreenPoint {
	var l []api.ScreenPoint
	for range count {
		l = append(l, at(s.from(-away, away), s.from(-away, away), s.from(-away, away), s.from(-phase, phase)))
	}
	return l
}

// randomScreens are screens of all sizes, many of which several planes or trends fit.
func randomScreens(seed int) [][]api.ScreenPoint {
	numbers := source(seed)
	l := greatScreens()
	for i := range 400 {
		count := numbers.from(1, 4+20*(i%2))
		l = append(l, numbers.screen(count, []int{1, 4, 200}[i/2%3], []int{2, 50, 16000}[i/6%3]))
	}
	return l
}

// greatScreens have 24 points whose numbers are as great as they may be.
func greatScreens() [][]api.ScreenPoint {
	var l [][]api.ScreenPoint
	for kind := range 32 {
		has := func(bit int) bool { return kind>>bit%2 == 1 }
		sign := func(negative bool, n int) int {
			if negative {
				return -n
			}
			return n
		}
		var points []api.ScreenPoint
		for i := range 24 {
			x, y := sign(has(0) && i%2 == 0 || i == 3, 200), sign(has(1) && i < 12 || i == 5, 200)
			height := sign(has(2) && i%3 == 0 || i == 7, 200)
			points = append(points, at(x, y, height, sign(has(3) && x < 0 || has(4) && height < 0, 16000)))
		}
		l = append(l, points)
	}
	return l
}

type screenFault struct {
	what string
	l    []api.ScreenPoint
	err  api.Errno
}

func screenFaults() []screenFault {
	wrong := at(0, 0, 0, 16001)
	return []screenFault{
		{"no points", nil, api.ErrShape},
		{"25 points", make([]api.ScreenPoint, 25), api.ErrLarge},
		{"25 points, the first one of which is wrong", append(screen(wrong), make([]api.ScreenPoint, 24)...), api.ErrLarge},
		{"a place that is too far east", screen(at(201, 0, 0, 0)), api.ErrRange},
		{"a place that is too far west", screen(at(-201, 0, 0, 0)), api.ErrRange},
		{"a place that is too far north", screen(at(0, 201, 0, 0)), api.ErrRange},
		{"a place that is too far south", screen(at(0, -201, 0, 0)), api.ErrRange},
		{"a height that is too great", screen(at(0, 0, 201, 0)), api.ErrRange},
		{"a height that is too small", screen(at(0, 0, -201, 0)), api.ErrRange},
		{"a phase that is too great", screen(wrong), api.ErrRange},
		{"a phase that is too small", screen(at(0, 0, 0, -16001)), api.ErrRange},
		{"numbers without end", screen(at(math.MinInt, math.MaxInt, math.MinInt, math.MaxInt)), api.ErrRange},
		{"the last one of 24 points", append(make([]api.ScreenPoint, 23), wrong), api.ErrRange},
	}
}

// P8.4
func TestCheckScreen(t *testing.T) {
	right := append(greatScreens(),
		screen(at(0, 0, 0, 0)),
		make([]api.ScreenPoint, 24),
		screen(at(-200, 200, -200, 16000), at(200, -200, 200, -16000)),
		screen(at(7, 8, 9, 10), at(7, 8, 9, 10)),
	)
	for _, l := range right {
		before := slices.Clone(l)
		expectError(t, "a screen", series.CheckScreen(l), api.OK)
		expect(t, "the screen behind CheckScreen", l, api.OK, before, api.OK)
	}
	for _, x := range screenFaults() {
		expectError(t, x.what, series.CheckScreen(x.l), x.err)
		trend, err := series.HeightTrend(x.l)
		expect(t, "HeightTrend: "+x.what, trend, err, [2]api.Frac{}, x.err)
		plane, err := series.Plane(x.l)
		expect(t, "Plane: "+x.what, plane, err, [3]api.Frac{}, x.err)
		removed, err := series.Removed(x.l)
		expect(t, "Removed: "+x.what, removed, err, nil, x.err)
	}
}

// P8.4
func TestHeightTrend(t *testing.T) {
	for _, x := range []struct {
		what string
		l    []api.ScreenPoint
		want [2]api.Frac
		err  api.Errno
	}{
		{"the seventh example", ofHeights([2]int{0, 1}, [2]int{10, 5}, [2]int{20, 9}), [2]api.Frac{fraction(2, 5), whole(1)}, api.OK},
		{"places that do not count", screen(at(200, -9, 0, 1), at(-200, 3, 10, 5), at(5, 5, 20, 9)), [2]api.Frac{fraction(2, 5), whole(1)}, api.OK},
		{"two points", ofHeights([2]int{-3, 1}, [2]int{4, -8}), [2]api.Frac{fraction(-9, 7), fraction(-20, 7)}, api.OK},
		{"phases of 0", ofHeights([2]int{1, 0}, [2]int{2, 0}), [2]api.Frac{whole(0), whole(0)}, api.OK},
		{"what no trend has", ofHeights([2]int{0, 0}, [2]int{0, 1}, [2]int{1, 5}), [2]api.Frac{fraction(9, 2), fraction(1, 2)}, api.OK},
		{"one point", ofHeights([2]int{9, 1}), [2]api.Frac{}, api.ErrRank},
		{"one height", screen(at(1, 2, 9, 1), at(3, 5, 9, 2), at(7, 7, 9, 9)), [2]api.Frac{}, api.ErrRank},
	} {
		before := slices.Clone(x.l)
		got, err := series.HeightTrend(x.l)
		expect(t, x.what, got, err, x.want, x.err)
		expect(t, x.what+", the screen", x.l, api.OK, before, api.OK)
	}
}

// P8.4
func TestPlane(t *testing.T) {
	for _, x := range []struct {
		what string
		l    []api.ScreenPoint
		want [3]api.Frac
		err  api.Errno
	}{
		{"three points", screen(at(0, 0, 9, 7), at(10, 0, 8, 12), at(0, 20, 7, 0)), [3]api.Frac{fraction(1, 2), fraction(-7, 20), whole(7)}, api.OK},
		{"one height", screen(at(0, 0, 1, 7), at(1, 0, 1, 8), at(0, 1, 1, 9)), [3]api.Frac{whole(1), whole(2), whole(7)}, api.OK},
		{"a square with a raised corner", screen(at(0, 0, 0, 0), at(1, 0, 0, 0), at(0, 1, 0, 0), at(1, 1, 0, 1)), [3]api.Frac{fraction(1, 2), fraction(1, 2), fraction(-1, 4)}, api.OK},
		{"two points", screen(at(0, 0, 0, 7), at(1, 5, 0, 8)), [3]api.Frac{}, api.ErrRank},
		{"a line", screen(at(0, 1, 0, 7), at(1, 3, 5, 8), at(2, 5, 2, 9)), [3]api.Frac{}, api.ErrRank},
		{"a line to the north", screen(at(4, 1, 0, 7), at(4, 3, 5, 8), at(4, 9, 2, 9)), [3]api.Frac{}, api.ErrRank},
		{"a line to the east", screen(at(1, 4, 0, 7), at(3, 4, 5, 8), at(9, 4, 2, 9)), [3]api.Frac{}, api.ErrRank},
		{"one point", screen(at(0, 1, 0, 7)), [3]api.Frac{}, api.ErrRank},
	} {
		before := slices.Clone(x.l)
		got, err := series.Plane(x.l)
		expect(t, x.what, got, err, x.want, x.err)
		expect(t, x.what+", the screen", x.l, api.OK, before, api.OK)
	}
}

// screenRows gives the factors of the plane or of the trend, and the phases.
func screenRows(l []api.ScreenPoint, isPlane bool) ([][]*big.Rat, []*big.Rat) {
	var factors [][]*big.Rat
	var phases []*big.Rat
	for _, x := range l {
		if isPlane {
			factors = append(factors, numbersOf(x.X, x.Y, 1))
		} else {
			factors = append(factors, numbersOf(x.Height, 1))
		}
		phases = append(phases, numbersOf(x.Phase)...)
	}
	return factors, phases
}

// P8.4: against fits by elimination.
func TestScreensByDefinition(t *testing.T) {
	seen := map[api.Errno]int{}
	for _, l := range randomScreens(10) {
		for _, isPlane := range []bool{false, true} {
			fit, ok := leastSquares(screenRows(l, isPlane))
			want, wantErr := small(fit)
			if !ok {
				want, wantErr = nil, api.ErrRank
			}
			if isPlane {
				got, err := series.Plane(l)
				expect(t, "Plane", got[:], err, padded(want, 3), wantErr)
				seen[err]++
			} else {
				got, err := series.HeightTrend(l)
				expect(t, "HeightTrend", got[:], err, padded(want, 2), wantErr)
				seen[err+1000]++
			}
		}
	}
	for _, err := range []api.Errno{api.OK, api.ErrRank, api.ErrLarge} {
		if seen[err] < 10 || seen[err+1000] < 10 {
			t.Errorf("so many of each error: %v", seen)
		}
	}
}

// P8.4
func TestRemoved(t *testing.T) {
	for _, x := range []struct {
		what string
		l    []api.ScreenPoint
		want []int
		err  api.Errno
	}{
		{"the seventh example", ofHeights([2]int{0, 1}, [2]int{10, 5}, [2]int{20, 9}), []int{0, 0, 0}, api.OK},
		{"halves", ofHeights([2]int{0, 0}, [2]int{0, 1}, [2]int{1, 5}), []int{0, 1, 0}, api.OK},
		{"greater halves", ofHeights([2]int{0, 0}, [2]int{0, 3}, [2]int{1, -7}), []int{-1, 2, 0}, api.OK},
		{"thirds", ofHeights([2]int{0, 0}, [2]int{0, 0}, [2]int{0, 1}, [2]int{1, 4}), []int{0, 0, 1, 0}, api.OK},
		{"two thirds", ofHeights([2]int{0, 1}, [2]int{0, 1}, [2]int{0, 0}, [2]int{1, 4}), []int{0, 0, -1, 0}, api.OK},
		{"what the places would make up for", screen(at(1, 0, 0, 5), at(-1, 0, 0, -5), at(0, 0, 1, 3)), []int{5, -5, 0}, api.OK},
		{"great phases", ofHeights([2]int{-200, 16000}, [2]int{200, 16000}, [2]int{0, -16000}), []int{10667, 10667, -21333}, api.OK},
		{"one height", ofHeights([2]int{3, 16000}, [2]int{3, 2}), nil, api.ErrRank},
		{"one point", ofHeights([2]int{3, 0}), nil, api.ErrRank},
	} {
		before := slices.Clone(x.l)
		got, err := series.Removed(x.l)
		expect(t, x.what, got, err, x.want, x.err)
		expect(t, x.what+", the screen", x.l, api.OK, before, api.OK)
	}
}

// P8.4: also where the trend itself has fractions that are not small.
func TestRemovedByDefinition(t *testing.T) {
	large := 0
	for _, l := range randomScreens(11) {
		got, err := series.Removed(l)
		factors, phases := screenRows(l, false)
		fit, ok := leastSquares(factors, phases)
		if !ok {
			expect(t, "Removed", got, err, nil, api.ErrRank)
			continue
		}
		var want []int
		for _, x := range missed(factors, phases, fit) {
			want = append(want, down(x.Add(x, big.NewRat(1, 2))))
		}
		expect(t, "Removed", got, err, want, api.OK)
		if _, err := series.HeightTrend(l); err == api.ErrLarge {
			large++
		}
	}
	if large < 5 {
		t.Errorf("%d trends that are not small", large)
	}
}
