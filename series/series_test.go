package series_test

import (
	"math"
	"slices"
	"testing"

	"swath/api"
	"swath/series"
)

// rightSeries are series that CheckSeries accepts.
func rightSeries() []api.SeriesPoint {
	return append(greatSeries(),
		firstExample(),
		seriesOf(dates(1)...),
		seriesOf(dates(20)...),
		named("abcdefghijkl", epoch(0, -100, -16000, 0), epoch(400, 100, 16000, 2048)),
		named("Z", epoch(100000, 100, 16000, 2048)),
		named("A-09az--Z-", epoch(99600, 0, 0, 2048), epoch(99601, 0, 0, 0), epoch(100000, 0, 0, 0)),
		named("a", epoch(0, 100, -16000, 2048)),
	)
}

// P8.1
func TestCheckSeries(t *testing.T) {
	for _, s := range rightSeries() {
		before := copyOf(s)
		expectError(t, "a series", series.CheckSeries(s), api.OK)
		expect(t, "the series behind CheckSeries", s, api.OK, before, api.OK)
	}
	for _, x := range seriesFaults() {
		expectError(t, x.what, series.CheckSeries(x.s), x.err)
	}
}

// P8.1, P8.2, P8.3, P8.7: the errors of a series are those of all functions that take one, ahead of their own.
func TestErrorsOfSeries(t *testing.T) {
	for _, x := range seriesFaults() {
		sums, right, err := series.NormalOf(x.s)
		expect(t, "NormalOf: "+x.what, sums, err, [9]int{}, x.err)
		expect(t, "the right side of NormalOf: "+x.what, right, err, [3]int{}, x.err)
		rank, undetermined, err := series.RankOf(x.s)
		expect(t, "RankOf: "+x.what, rank, err, 0, x.err)
		expect(t, "the parameters of RankOf: "+x.what, undetermined, err, nil, x.err)
		all, err := series.Solve(x.s)
		expect(t, "Solve: "+x.what, all, err, [3]api.Frac{}, x.err)
		both, err := series.SolveOnly(x.s, -1)
		expect(t, "SolveOnly: "+x.what, both, err, [2]api.Frac{}, x.err)
		residuals, err := series.Residuals(x.s)
		expect(t, "Residuals: "+x.what, residuals, err, nil, x.err)
		one, err := series.Predicted(x.s, math.MinInt, 0)
		expect(t, "Predicted: "+x.what, one, err, api.Frac{}, x.err)
		sum, err := series.SquaresOf(x.s, [3]int{101, 0, 0})
		expect(t, "SquaresOf: "+x.what, sum, err, 0, x.err)
		with, err := series.Datum(x.s, -1)
		expect(t, "Datum: "+x.what, with, err, api.SeriesPoint{}, x.err)
		velocities, err := series.VelocityRange(x.s)
		expect(t, "VelocityRange: "+x.what, velocities, err, api.Range{}, x.err)
		text, err := series.Print(x.s)
		expect(t, "Print: "+x.what, text, err, "", x.err)
	}
}

// P8.1
func TestDatum(t *testing.T) {
	margins := seriesOf(epoch(3, 1, 5, 10), epoch(4, 2, 0, 0), epoch(9, 3, -7, 20))
	edge := seriesOf(epoch(0, 0, 8000, 1024), epoch(1, 0, -8000, 1024), epoch(2, 0, 0, 2000))
	far := seriesOf(epoch(0, 0, 8000, 0), epoch(1, 0, -8001, 0))
	wide := seriesOf(epoch(0, 0, 0, 1024), epoch(1, 0, 0, 1025), epoch(2, 0, 0, 0))
	for _, x := range []struct {
		what  string
		s     api.SeriesPoint
		epoch int
		want  api.SeriesPoint
		err   api.Errno
	}{
		{"the fifth example", firstExample(), 1, example([3]int{0, 10, 0}, [3]int{-30, 0, 10}), api.OK},
		{"a date with the phase 0 and the margin 0", margins, 1, margins, api.OK},
		{"the first date", margins, 0, seriesOf(epoch(3, 1, 0, 0), epoch(4, 2, -5, 10), epoch(9, 3, -12, 30)), api.OK},
		{"the last date", margins, 2, seriesOf(epoch(3, 1, 12, 30), epoch(4, 2, 7, 20), epoch(9, 3, 0, 0)), api.OK},
		{"another name", named("Q-1", epoch(7, 1, 9, 2048)), 0, named("Q-1", epoch(7, 1, 0, 0)), api.OK},
		{"a margin of its own that counts no more", seriesOf(epoch(0, 0, 0, 2048), epoch(1, 0, 0, 0)), 0, seriesOf(epoch(0, 0, 0, 0), epoch(1, 0, 0, 2048)), api.OK},
		{"the greatest phase and margin", seriesOf(edge.Epochs[:2]...), 0, seriesOf(epoch(0, 0, 0, 0), epoch(1, 0, -16000, 2048)), api.OK},
		{"the greatest phase above 0", seriesOf(edge.Epochs[:2]...), 1, seriesOf(epoch(0, 0, 16000, 2048), epoch(1, 0, 0, 0)), api.OK},
		{"a margin that becomes too great at the last date", edge, 0, api.SeriesPoint{}, api.ErrLarge},
		{"a margin that becomes too great", wide, 0, api.SeriesPoint{}, api.ErrLarge},
		{"a margin that becomes too great at an earlier date", wide, 1, api.SeriesPoint{}, api.ErrLarge},
		{"no margin at the datum", wide, 2, wide, api.OK},
		{"a phase that becomes too small", far, 0, api.SeriesPoint{}, api.ErrLarge},
		{"a phase that becomes too great", far, 1, api.SeriesPoint{}, api.ErrLarge},
		{"no such date", margins, 3, api.SeriesPoint{}, api.ErrMissing},
		{"a date below 0", margins, -1, api.SeriesPoint{}, api.ErrMissing},
		{"a date far below 0", far, math.MinInt, api.SeriesPoint{}, api.ErrMissing},
		{"a date without end", far, math.MaxInt, api.SeriesPoint{}, api.ErrMissing},
	} {
		before := copyOf(x.s)
		got, err := series.Datum(x.s, x.epoch)
		expect(t, x.what, got, err, x.want, x.err)
		expect(t, x.what+", the series", x.s, api.OK, before, api.OK)
	}
}

// P8.1: no memory of the argument is in the result.
func TestDatumIsNew(t *testing.T) {
	s := seriesOf(epoch(0, 0, 0, 0), epoch(1, 0, 5, 0))
	got, err := series.Datum(s, 0)
	want := copyOf(s)
	s.Epochs[1].Phase = 77
	expect(t, "Datum", got, err, want, api.OK)
	got.Epochs = slices.Delete(got.Epochs, 0, 1)
	expect(t, "the series", s, api.OK, seriesOf(epoch(0, 0, 0, 0), epoch(1, 0, 77, 0)), api.OK)
}
