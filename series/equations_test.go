package series_test

import (
	"testing"

	"swath/api"
	"swath/series"
)

// P8.1
func TestNormalOf(t *testing.T) {
	for _, x := range []struct {
		what  string
		s     api.SeriesPoint
		sums  [9]int
		right [3]int
	}{
		{"the first example", firstExample(), [9]int{500, 100, 30, 100, 100, 10, 30, 10, 3}, [3]int{1100, 300, 70}},
		{"another first day", seriesOf(epoch(1000, 0, 0, 9), epoch(1010, 10, 30, 9), epoch(1020, 0, 40, 9)), [9]int{500, 100, 30, 100, 100, 10, 30, 10, 3}, [3]int{1100, 300, 70}},
		{"one date", seriesOf(epoch(70, -5, 11, 3)), [9]int{0, 0, 0, 0, 25, -5, 0, -5, 1}, [3]int{0, -55, 11}},
		{"two dates", seriesOf(epoch(5, 2, -3, 0), epoch(9, -7, 10, 0)), [9]int{16, -28, 4, -28, 53, -5, 4, -5, 2}, [3]int{40, -76, 7}},
	} {
		before := copyOf(x.s)
		sums, right, err := series.NormalOf(x.s)
		expect(t, x.what, sums, err, x.sums, api.OK)
		expect(t, x.what+", the right side", right, err, x.right, api.OK)
		expect(t, x.what+", the series", x.s, api.OK, before, api.OK)
	}
}

// P8.1: against the sums of the definition.
func TestNormalOfByDefinition(t *testing.T) {
	for _, s := range randomSeries(1) {
		var sums [9]int
		var right [3]int
		for _, x := range s.Epochs {
			factors := [3]int{x.Day - s.Epochs[0].Day, x.Base, 1}
			for i := range 9 {
				sums[i] += factors[i/3] * factors[i%3]
			}
			for i := range 3 {
				right[i] += factors[i] * x.Phase
			}
		}
		gotSums, gotRight, err := series.NormalOf(s)
		expect(t, "NormalOf", gotSums, err, sums, api.OK)
		expect(t, "the right side of NormalOf", gotRight, err, right, api.OK)
	}
}

// P8.1
func TestRankOf(t *testing.T) {
	for _, x := range []struct {
		what string
		s    api.SeriesPoint
		rank int
		l    []int
	}{
		{"the first example", firstExample(), 3, nil},
		{"the third example, without bases", example([3]int{0, 0, 0}, [3]int{0, 30, 40}), 2, []int{1}},
		{"the third example, with bases like the days", example([3]int{0, 10, 20}, [3]int{0, 30, 40}), 2, []int{0, 1}},
		{"bases like the days and more", example([3]int{-3, 2, 7}, [3]int{0, 30, 40}), 2, []int{0, 1, 2}},
		{"bases that fall with the days", example([3]int{20, 10, 0}, [3]int{0, 30, 40}), 2, []int{0, 1, 2}},
		{"one base", example([3]int{9, 9, 9}, [3]int{0, 30, 40}), 2, []int{1, 2}},
		{"one date without a base", seriesOf(epoch(9, 0, 7, 0)), 1, []int{0, 1}},
		{"one date with a base", seriesOf(epoch(0, -1, 7, 0)), 1, []int{0, 1, 2}},
		{"one date with the base 1", seriesOf(epoch(0, 1, 7, 0)), 1, []int{0, 1, 2}},
		{"two dates without bases", seriesOf(epoch(0, 0, 7, 0), epoch(9, 0, 7, 0)), 2, []int{1}},
		{"two dates with one base", seriesOf(epoch(0, 1, 7, 0), epoch(9, 1, 7, 0)), 2, []int{1, 2}},
		{"two dates, the first one without a base", seriesOf(epoch(3, 0, 7, 0), epoch(9, 5, 7, 0)), 2, []int{0, 1}},
		{"two dates, the last one without a base", seriesOf(epoch(3, 5, 7, 0), epoch(9, 0, 7, 0)), 2, []int{0, 1, 2}},
		{"a base at one of twenty dates", seriesOf(append(dates(19), epoch(400, 1, 0, 0))...), 3, nil},
	} {
		before := copyOf(x.s)
		rank, l, err := series.RankOf(x.s)
		expect(t, x.what, rank, err, x.rank, api.OK)
		expect(t, x.what+", the parameters", l, err, x.l, api.OK)
		expect(t, x.what+", the series", x.s, api.OK, before, api.OK)
	}
}

// P8.1: a parameter is determined if to ask for it makes the rank no greater.
func TestRankOfByDefinition(t *testing.T) {
	ranks := map[int]int{}
	for _, s := range randomSeries(2) {
		l := rows(s)
		want := rankOf(l)
		var undetermined []int
		for parameter := range 3 {
			asked := numbersOf(0, 0, 0)
			asked[parameter] = numbersOf(1)[0]
			if rankOf(append(rows(s), asked)) > want {
				undetermined = append(undetermined, parameter)
			}
		}
		rank, got, err := series.RankOf(s)
		expect(t, "RankOf", rank, err, want, api.OK)
		expect(t, "the parameters of RankOf", got, err, undetermined, api.OK)
		ranks[rank]++
	}
	if ranks[1] < 10 || ranks[2] < 30 || ranks[3] < 100 {
		t.Errorf("so many series of each rank: %v", ranks)
	}
}
