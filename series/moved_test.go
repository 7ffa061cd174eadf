package series_test

import (
	"math"
	"math/big"
	"testing"

	"swath/api"
	"swath/series"
)

func moved(first, firstMargin, second, secondMargin, wave int) api.SeriesMoved {
	return api.SeriesMoved{First: first, FirstMargin: firstMargin, Second: second, SecondMargin: secondMargin, Wave: wave}
}

func exampleMoved() api.SeriesMoved { return moved(100, 10, 20, 6, 560) }

// movedFaults are all ErrRange.
func movedFaults() map[string]api.SeriesMoved {
	return map[string]api.SeriesMoved{
		"a first phase that is too great":   moved(100000001, 0, 0, 0, 1),
		"a first phase that is too small":   moved(-100000001, 0, 0, 0, 1),
		"a first margin below 0":            moved(0, -1, 0, 0, 1),
		"a first margin that is too great":  moved(0, 2049, 0, 0, 1),
		"a second phase that is too great":  moved(0, 0, 100000001, 0, 1),
		"a second phase that is too small":  moved(0, 0, -100000001, 0, 1),
		"a second margin below 0":           moved(0, 0, 0, -1, 1),
		"a second margin that is too great": moved(0, 0, 0, 2049, 1),
		"a wave of 0":                       moved(0, 0, 0, 0, 0),
		"a wave below 0":                    moved(0, 0, 0, 0, -5),
		"a wave that is too great":          moved(0, 0, 0, 0, 10001),
		"a first phase without end":         moved(math.MinInt, 0, 0, 0, 1),
		"a second phase without end":        moved(0, 0, math.MaxInt, 0, 1),
		"margins without end":               moved(0, math.MaxInt, 0, math.MinInt, 1),
		"a wave without end":                moved(0, 0, 0, 0, math.MaxInt),
		"the constants of a void pixel":     moved(0, 0, api.PhaseVoid, 0, 1),
		"a wave far below 0":                moved(0, 0, 0, 0, math.MinInt),
	}
}

// P8.5
func TestMoved(t *testing.T) {
	for _, x := range []struct {
		what string
		x    api.SeriesMoved
		want api.Range
	}{
		{"the eighth example", exampleMoved(), span(4, 7)},
		{"the tenth example of the document", moved(0, 5, -500, 5, 560), span(33, 35)},
		{"the tenth example of the document with margins of 10 each", moved(0, 10, -500, 10, 560), span(32, 36)},
		{"away from the satellite", moved(20, 6, 100, 10, 560), span(-7, -4)},
		{"no change", moved(7, 0, 7, 0, 10000), span(0, 0)},
		{"a part of a part", moved(0, 0, 1, 0, 1), span(-1, 0)},
		{"a part of a part towards the satellite", moved(1, 0, 0, 0, 1), span(0, 1)},
		{"whole ones", moved(0, 0, -8192, 0, 7), span(7, 7)},
		{"more than whole ones", moved(0, 0, -8193, 0, 8191), span(8191, 8192)},
		{"margins alone", moved(0, 2048, 0, 2048, 10000), span(-5000, 5000)},
		{"one margin", moved(0, 3, 0, 0, 8192), span(-3, 3)},
		{"the other margin", moved(0, 0, 0, 3, 8192), span(-3, 3)},
		{"the greatest numbers", moved(100000000, 2048, -100000000, 2048, 10000), span(244135625, 244145625)},
		{"the least numbers", moved(-100000000, 2048, 100000000, 2048, 10000), span(-244145625, -244135625)},
	} {
		got, err := series.Moved(x.x)
		expect(t, x.what, got, err, x.want, api.OK)
	}
	for what, x := range movedFaults() {
		got, err := series.Moved(x)
		expect(t, what, got, err, api.Range{}, api.ErrRange)
		answer, err := series.Exceeds(x, 5)
		expect(t, "Exceeds: "+what, answer, err, 0, api.ErrRange)
	}
}

// P8.5
func TestExceeds(t *testing.T) {
	for _, x := range []struct {
		what      string
		x         api.SeriesMoved
		threshold int
		want      int
	}{
		{"the eighth example", exampleMoved(), 4, api.AnswerYes},
		{"the eighth example, maybe", exampleMoved(), 5, api.AnswerMaybe},
		{"the eighth example, a part less than the greatest one", exampleMoved(), 6, api.AnswerMaybe},
		{"the eighth example, no", exampleMoved(), 7, api.AnswerNo},
		{"the tenth example of the document", moved(0, 10, -500, 10, 560), 20, api.AnswerYes},
		{"90 to 110", moved(100, 5, 0, 5, 8192), 89, api.AnswerYes},
		{"90 itself", moved(100, 5, 0, 5, 8192), 90, api.AnswerMaybe},
		{"109", moved(100, 5, 0, 5, 8192), 109, api.AnswerMaybe},
		{"110 itself", moved(100, 5, 0, 5, 8192), 110, api.AnswerNo},
		{"-110 to -90", moved(0, 5, 100, 5, 8192), 89, api.AnswerYes},
		{"-90 itself", moved(0, 5, 100, 5, 8192), 90, api.AnswerMaybe},
		{"-109", moved(0, 5, 100, 5, 8192), 109, api.AnswerMaybe},
		{"-110 itself", moved(0, 5, 100, 5, 8192), 110, api.AnswerNo},
		{"-10 to 10", moved(0, 5, 0, 5, 8192), 9, api.AnswerMaybe},
		{"-10 to 10, no", moved(0, 5, 0, 5, 8192), 10, api.AnswerNo},
		{"-10 to 10, and 0", moved(0, 5, 0, 5, 8192), 0, api.AnswerMaybe},
		{"-8 to 2", moved(0, 5, 3, 0, 8192), 2, api.AnswerMaybe},
		{"-8 to 2, no", moved(0, 5, 3, 0, 8192), 8, api.AnswerNo},
		{"-2 to 8", moved(3, 0, 0, 5, 8192), 7, api.AnswerMaybe},
		{"-2 to 8, no", moved(3, 0, 0, 5, 8192), 8, api.AnswerNo},
		{"no movement", moved(3, 0, 3, 0, 8192), 0, api.AnswerNo},
		{"the least movement", moved(1, 0, 0, 0, 1), 0, api.AnswerYes},
		{"the least movement away", moved(0, 0, 1, 0, 1), 0, api.AnswerYes},
		{"the least movement and 1", moved(0, 0, 1, 0, 1), 1, api.AnswerNo},
		{"0 to a movement", moved(2, 1, 0, 1, 1), 0, api.AnswerMaybe},
		{"a movement to 0", moved(0, 1, 2, 1, 1), 0, api.AnswerMaybe},
		{"not rounded: 50.5", moved(101, 0, 0, 0, 4096), 50, api.AnswerYes},
		{"not rounded: 50.5, no", moved(101, 0, 0, 0, 4096), 51, api.AnswerNo},
		{"not rounded: -50.5", moved(0, 0, 101, 0, 4096), 50, api.AnswerYes},
		{"the greatest movement", moved(100000000, 0, -100000000, 0, 10000), 244140624, api.AnswerYes},
		{"the greatest movement itself", moved(100000000, 0, -100000000, 0, 10000), 244140625, api.AnswerNo},
		{"the greatest threshold", moved(-100000000, 2048, 100000000, 2048, 10000), 1000000000, api.AnswerNo},
	} {
		got, err := series.Exceeds(x.x, x.threshold)
		expect(t, x.what, got, err, x.want, api.OK)
	}
	for _, threshold := range []int{-1, 1000000001, math.MinInt, math.MaxInt} {
		got, err := series.Exceeds(exampleMoved(), threshold)
		expect(t, "a wrong threshold", got, err, 0, api.ErrRange)
	}
}

// endsOf gives the movements of the greatest and of the least change.
func endsOf(x api.SeriesMoved) (*big.Rat, *big.Rat) {
	change, margin := x.Second-x.First, x.FirstMargin+x.SecondMargin
	return big.NewRat(int64(change+margin)*int64(-x.Wave), 8192), big.NewRat(int64(change-margin)*int64(-x.Wave), 8192)
}

func (s *source) moved(size, margin, wave int) api.SeriesMoved {
	return moved(s.from(-size, size), s.from(0, margin), s.from(-size, size), s.from(0, margin), s.from(1, wave))
}

// P8.5
func TestMovedByDefinition(t *testing.T) {
	numbers := source(12)
	seen := map[int]int{}
	for i := range 3000 {
		size := []int{20, 5000, 100000000}[i%3]
		x := numbers.moved(size, []int{2, 300, 2048}[i/3%3], []int{5, 600, 10000}[i/9%3])
		least, greatest := endsOf(x)
		got, err := series.Moved(x)
		expect(t, "Moved", got, err, span(down(least), up(greatest)), api.OK)
		for _, threshold := range []int{sizeOf(down(least)), sizeOf(up(greatest)), numbers.from(0, 9), numbers.from(0, 1000000000)} {
			want := api.AnswerMaybe
			most, opposite := big.NewRat(int64(threshold), 1), big.NewRat(-int64(threshold), 1)
			if least.Cmp(most) > 0 || greatest.Cmp(opposite) < 0 {
				want = api.AnswerYes
			} else if least.Cmp(opposite) >= 0 && greatest.Cmp(most) <= 0 {
				want = api.AnswerNo
			}
			answer, err := series.Exceeds(x, threshold)
			expect(t, "Exceeds", answer, err, want, api.OK)
			seen[answer]++
		}
	}
	if seen[api.AnswerNo] < 500 || seen[api.AnswerMaybe] < 500 || seen[api.AnswerYes] < 500 {
		t.Errorf("so many of each answer: %v", seen)
	}
}
