package match_test

import (
	"math"
	"slices"
	"testing"

	"swath/api"
	"swath/match"
)

// P3.2
func TestCheckPoints(t *testing.T) {
	for _, x := range pointsFaults() {
		at, err := match.CheckPoints(x.l)
		expect(t, x.what, at, err, x.at, x.err)
	}
	corners := []api.MatchPoint{scored(0, 0, -8, 8, 0), scored(63, 63, 8, -8, 1000), scored(63, 63, 8, -8, 1000)}
	for _, l := range [][]api.MatchPoint{nil, {}, manyPoints(30), corners} {
		at, err := match.CheckPoints(l)
		expect(t, "points", at, err, 0, api.OK)
	}
}

// P3.2, P3.3: the errors of points, with further arguments that are wrong too.
func TestErrorsOfPoints(t *testing.T) {
	for _, x := range pointsFaults() {
		median, err := match.Median(x.l)
		expect(t, "Median: "+x.what, median, err, [2]int{}, x.err)
		kept, err := match.Kept(x.l, -1)
		expect(t, "Kept: "+x.what, kept, err, nil, x.err)
		rank, err := match.RankOf(x.l)
		expect(t, "RankOf: "+x.what, rank, err, 0, x.err)
		f, err := match.Fit(x.l)
		expect(t, "Fit: "+x.what, f, err, api.MatchAffine{}, x.err)
		worst, err := match.Worst(whole(0, 0), x.l)
		expect(t, "Worst: "+x.what, worst, err, 0, x.err)
	}
}

// offsetsOf gives points with these offsets.
func offsetsOf(offsets ...[2]int) []api.MatchPoint {
	var l []api.MatchPoint
	for i, by := range offsets {
		l = append(l, point(i, 2*i, by[0], by[1]))
	}
	return l
}

// P3.2
func TestMedian(t *testing.T) {
	for _, x := range []struct {
		what string
		l    []api.MatchPoint
		want [2]int
		err  api.Errno
	}{
		{"one point", offsetsOf([2]int{-8, 8}), [2]int{-8, 8}, api.OK},
		{"two points", offsetsOf([2]int{3, -1}, [2]int{1, -2}), [2]int{1, -2}, api.OK},
		{"three points", offsetsOf([2]int{3, 5}, [2]int{1, 7}, [2]int{2, 6}), [2]int{2, 6}, api.OK},
		{"1, 2, 3, 4", offsetsOf([2]int{4, 1}, [2]int{2, 3}, [2]int{3, 2}, [2]int{1, 4}), [2]int{2, 2}, api.OK},
		{"the fourth example", []api.MatchPoint{point(0, 0, 0, 1), point(10, 0, 0, 2), point(0, 10, 1, 1), point(10, 10, 1, 3)}, [2]int{0, 1}, api.OK},
		{"no points", nil, [2]int{}, api.ErrShape},
	} {
		got, err := match.Median(x.l)
		expect(t, x.what, got, err, x.want, x.err)
	}
}

// P3.2
func TestKept(t *testing.T) {
	four := []api.MatchPoint{point(0, 0, 0, 1), point(10, 0, 0, 2), point(0, 10, 1, 1), point(10, 10, 1, 3)}
	for _, x := range []struct {
		what      string
		l         []api.MatchPoint
		tolerance int
		want      []int
		err       api.Errno
	}{
		{"the fourth example", four, 1, []int{0, 1, 2}, api.OK},
		{"no tolerance", four, 0, []int{0}, api.OK},
		{"a tolerance of 2", four, 2, []int{0, 1, 2, 3}, api.OK},
		{"lines too far above and below", offsetsOf([2]int{0, 0}, [2]int{-3, 0}, [2]int{3, 0}, [2]int{-2, 0}, [2]int{2, 0}), 2, []int{0, 3, 4}, api.OK},
		{"samples too far above and below", offsetsOf([2]int{0, 0}, [2]int{0, -3}, [2]int{0, 3}, [2]int{0, -2}, [2]int{0, 2}), 2, []int{0, 3, 4}, api.OK},
		{"nothing fits both medians", offsetsOf([2]int{0, 5}, [2]int{5, 0}), 0, nil, api.OK},
		{"the greatest tolerance", offsetsOf([2]int{-8, 0}, [2]int{-8, 0}, [2]int{0, 0}, [2]int{1, 0}), 8, []int{0, 1, 2}, api.OK},
		{"no points", nil, 8, nil, api.OK},
		{"no points and a wrong tolerance", nil, 9, nil, api.ErrRange},
		{"a tolerance below 0", four, -1, nil, api.ErrRange},
		{"a great tolerance", four, 9, nil, api.ErrRange},
		{"the greatest tolerance of all", four, math.MaxInt, nil, api.ErrRange},
	} {
		before := slices.Clone(x.l)
		got, err := match.Kept(x.l, x.tolerance)
		expect(t, x.what, got, err, x.want, x.err)
		match.Median(x.l)
		expect(t, x.what+", the points", x.l, api.OK, before, api.OK)
	}
}

// P3.3
func TestRankOf(t *testing.T) {
	for _, x := range []struct {
		what string
		l    []api.MatchPoint
		want int
	}{
		{"no points", nil, 0},
		{"one point", offsetsOf([2]int{1, 2}), 1},
		{"one place", []api.MatchPoint{point(5, 6, 0, 0), point(5, 6, 1, 1), point(5, 6, 2, 2)}, 1},
		{"two places", []api.MatchPoint{point(5, 6, 0, 0), point(5, 6, 0, 0), point(5, 7, 0, 0)}, 2},
		{"two places on a column", []api.MatchPoint{point(5, 6, 0, 0), point(6, 6, 0, 0)}, 2},
		{"a line", []api.MatchPoint{point(0, 0, 0, 0), point(2, 4, 0, 0), point(1, 2, 0, 0), point(31, 62, 0, 0)}, 2},
		{"a row", []api.MatchPoint{point(3, 0, 0, 0), point(3, 9, 0, 0), point(3, 63, 0, 0)}, 2},
		{"a line downwards", []api.MatchPoint{point(3, 0, 0, 0), point(2, 1, 0, 0), point(0, 3, 0, 0)}, 2},
		{"a triangle", []api.MatchPoint{point(0, 0, 0, 0), point(0, 1, 0, 0), point(1, 0, 0, 0)}, 3},
		{"a triangle that hardly is one", []api.MatchPoint{point(0, 0, 0, 0), point(62, 63, 0, 0), point(61, 62, 0, 0)}, 3},
		{"places of the first one, and a line", []api.MatchPoint{point(0, 0, 0, 0), point(0, 0, 0, 0), point(1, 1, 0, 0), point(2, 2, 0, 0)}, 2},
		{"the last one beside the line", []api.MatchPoint{point(0, 0, 0, 0), point(0, 0, 0, 0), point(1, 1, 0, 0), point(2, 2, 0, 0), point(2, 3, 0, 0)}, 3},
	} {
		got, err := match.RankOf(x.l)
		expect(t, x.what, got, err, x.want, api.OK)
		f, err := match.Fit(x.l)
		if x.want < 3 {
			expect(t, "Fit: "+x.what, f, err, api.MatchAffine{}, api.ErrRank)
		} else {
			expect(t, "Fit: "+x.what, f, err, whole(0, 0), api.OK)
		}
	}
}
