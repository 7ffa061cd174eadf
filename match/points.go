package match

import (
	"slices"

	"swath/api"
)

const (
	fullScore = 1000
	fullRank  = 3
)

// CheckPoints tells whether points have their form, or else the number of the first wrong one.
func CheckPoints(l []api.MatchPoint) (int, api.Errno) {
	if len(l) > api.MaxMatchPoints {
		return 0, api.ErrLarge
	}
	for i, x := range l {
		if err := checkPoint(x); err != api.OK {
			return i, err
		}
	}
	return 0, api.OK
}

func checkPoint(x api.MatchPoint) api.Errno {
	right := isPlace(x.Line, x.Sample) && isOffset(x.By[0]) && isOffset(x.By[1]) && within(x.Score, 0, fullScore)
	return errorIf(!right, api.ErrRange)
}

func isOffset(n int) bool {
	return within(n, -api.MaxMatchOffset, api.MaxMatchOffset)
}

// Median gives the median of the offsets of points.
func Median(l []api.MatchPoint) ([2]int, api.Errno) {
	if _, err := CheckPoints(l); err != api.OK {
		return [2]int{}, err
	}
	if len(l) == 0 {
		return [2]int{}, api.ErrShape
	}
	return [2]int{medianOf(l, 0), medianOf(l, 1)}, api.OK
}

// medianOf gives the middle offset in lines (0) or in samples (1), of two ones the lower one.
func medianOf(l []api.MatchPoint, axis int) int {
	var offsets []int
	for _, x := range l {
		offsets = append(offsets, x.By[axis])
	}
	slices.Sort(offsets)
	return offsets[(len(offsets)-1)/2]
}

// Kept gives the numbers of the points that fit within a tolerance.
func Kept(l []api.MatchPoint, tolerance int) ([]int, api.Errno) {
	if _, err := CheckPoints(l); err != api.OK {
		return nil, err
	}
	if !isTolerance(tolerance) {
		return nil, api.ErrRange
	}
	if len(l) == 0 {
		return nil, api.OK
	}
	lines, samples := medianOf(l, 0), medianOf(l, 1)
	var kept []int
	for i, x := range l {
		if sizeOf(x.By[0]-lines) <= tolerance && sizeOf(x.By[1]-samples) <= tolerance {
			kept = append(kept, i)
		}
	}
	return kept, api.OK
}

// RankOf tells whether the places of points are none, one, on a line, or more than that.
func RankOf(l []api.MatchPoint) (int, api.Errno) {
	if _, err := CheckPoints(l); err != api.OK {
		return 0, err
	}
	return rankOf(l), api.OK
}

func rankOf(l []api.MatchPoint) int {
	rank := min(len(l), 1)
	for _, x := range l {
		if x.Line != l[0].Line || x.Sample != l[0].Sample {
			rank = max(rank, 2)
		}
		for _, y := range l {
			if area(l[0], x, y) != 0 {
				return fullRank
			}
		}
	}
	return rank
}

// area gives twice the area of the triangle of three places, below 0 if they turn the other way.
func area(x, y, z api.MatchPoint) int {
	return (y.Line-x.Line)*(z.Sample-x.Sample) - (y.Sample-x.Sample)*(z.Line-x.Line)
}
