package unwrap_test

import (
	"math"
	"testing"

	"swath/api"
	"swath/unwrap"
)

// P5.8
func TestShifted(t *testing.T) {
	for _, x := range []struct {
		what  string
		u     api.PhaseMap
		turns int
		want  api.PhaseMap
		err   api.Errno
	}{
		{"two turns", phases(2, 2, 0, 1, void, -8192), 2, phases(2, 2, 8192, 8193, void, 0), api.OK},
		{"a turn back", row(0, void, 5000), -1, row(-4096, void, 904), api.OK},
		{"no turns", row(100000000, void, -100000000), 0, row(100000000, void, -100000000), api.OK},
		{"void pixels alone", row(void, void), 1000, row(void, void), api.OK},
		{"1000 turns", row(0), 1000, row(4096000), api.OK},
		{"1000 turns back", row(0), -1000, row(-4096000), api.OK},
		{"up to the limit", row(95904000), 1000, row(100000000), api.OK},
		{"down to the limit", row(-95904000), -1000, row(-100000000), api.OK},
		{"1001 turns", row(0), 1001, api.PhaseMap{}, api.ErrRange},
		{"1001 turns back", row(void), -1001, api.PhaseMap{}, api.ErrRange},
		{"the greatest number of turns", row(0), math.MaxInt, api.PhaseMap{}, api.ErrRange},
		{"the least number of turns", row(0), math.MinInt, api.PhaseMap{}, api.ErrRange},
		{"a great phase by 1001 turns", row(100000000), 1001, api.PhaseMap{}, api.ErrRange},
		{"a great phase", row(0, 95904001), 1000, api.PhaseMap{}, api.ErrLarge},
		{"a small phase", row(-100000000, 0), -1, api.PhaseMap{}, api.ErrLarge},
	} {
		before := copyOfMap(x.u)
		got, err := unwrap.Shifted(x.u, x.turns)
		expect(t, x.what, got, err, x.want, x.err)
		expect(t, "the map behind Shifted", x.u, api.OK, before, api.OK)
		if err == api.OK {
			got.Phases[0] = 77
			expect(t, "the map behind a change of the result", x.u, api.OK, before, api.OK)
		}
	}
	for _, x := range append(sizeFaults(), phaseFaults()...) {
		got, err := unwrap.Shifted(x.m, 1001)
		expect(t, x.what, got, err, api.PhaseMap{}, x.err)
	}
}

// P5.8
func TestJoined(t *testing.T) {
	for _, x := range []struct {
		what     string
		a, b     api.PhaseMap
		overlap  int
		want     api.PhaseMap
		disagree int
	}{
		{"the example", row(100, 200), row(4296, 300), 1, row(100, 200, -3796), 0},
		{"no shift", row(1, 2, 3), row(2, 3, 4), 2, row(1, 2, 3, 4), 0},
		{"all of b", row(1, 2, 3), row(4098, 4099), 2, row(1, 2, 3), 0},
		{"all of a", row(1, 2), row(1, 2, 3), 2, row(1, 2, 3), 0},
		{"both alike", row(1, 2), row(-4095, 2), 2, row(1, 2), 1},
		{"two rows", phases(2, 2, 1, 2, 3, 4), phases(2, 3, 4098, 5, 6, 4100, 7, 8), 1, phases(2, 4, 1, 2, 5-4096, 6-4096, 3, 4, 7-4096, 8-4096), 0},
		{"the most of three", row(0, 4096, 4096, 9), row(0, 0, 0, 9), 4, row(0, 4096, 4096, 9), 2},
		{"the most of three, which is not the least", row(0, 4096, 4096), row(0, 0, 0, 9), 3, row(0, 4096, 4096, 4105), 1},
		{"the least of two", row(4096, 0), row(0, 0, 9), 2, row(4096, 0, 9), 1},
		{"the least of two, the other way round", row(0, -4096), row(0, 0, 9), 2, row(0, -4096, 9-4096), 1},
		{"the least of four", row(8192, -4096, 4096, 0), row(0, 0, 0, 0, 9), 4, row(8192, -4096, 4096, 0, 9-4096), 3},
		{"the most behind the least", row(-8192, 4096, 4096, 8192), row(0, 0, 0, 0, 9), 4, row(-8192, 4096, 4096, 8192, 4105), 2},
		{"a void pixel of a", row(1, void, 3), row(4098, 4099, 4100), 2, row(1, 2, 3, 4), 0},
		{"a void pixel of b", row(1, 2, 3), row(void, 4099, void), 2, row(1, 2, 3, void), 0},
		{"void pixels of both", row(1, void, 3), row(void, 4099, 4100), 2, row(1, void, 3, 4), 0},
		{"void pixels of a alone", row(void, void, 3), row(4099, void), 1, row(void, void, 3, void), 0},
		{"a shift up to the limit", row(99999744), row(0, 256), 1, row(99999744, 100000000), 0},
		{"a shift down to the limit", row(-99999744), row(0, -256), 1, row(-99999744, -100000000), 0},
		{"the greatest shift", row(99999744), row(-99999744, -100000000), 1, row(99999744, 99999488), 0},
		{"64 columns", phases(1, 64, make([]int, 64)...), row(4096), 1, phases(1, 64, make([]int, 64)...), 0},
	} {
		before, beforeSecond := copyOfMap(x.a), copyOfMap(x.b)
		got, disagree, err := unwrap.Joined(x.a, x.b, x.overlap)
		expect(t, x.what, got, err, x.want, api.OK)
		expect(t, "the disagreement: "+x.what, disagree, err, x.disagree, api.OK)
		expect(t, "the first map behind Joined", x.a, api.OK, before, api.OK)
		expect(t, "the second map behind Joined", x.b, api.OK, beforeSecond, api.OK)
	}
}

// P5.8
func TestErrorsOfJoined(t *testing.T) {
	wide := phases(1, 64, make([]int, 64)...)
	for _, x := range []struct {
		what    string
		a, b    api.PhaseMap
		overlap int
		err     api.Errno
	}{
		{"other rows", row(1), phases(2, 1, 1, 1), 1, api.ErrClash},
		{"other rows, and no overlap", row(1), phases(2, 1, 1, 1), 0, api.ErrClash},
		{"no overlap", row(1), row(1), 0, api.ErrRange},
		{"an overlap below 0", row(1, 2), row(1, 2), -1, api.ErrRange},
		{"more than the columns of a", row(1), row(1, 2, 3), 2, api.ErrRange},
		{"more than the columns of b", row(1, 2, 3), row(2, 3), 3, api.ErrRange},
		{"the greatest overlap of all", row(1), row(1), math.MaxInt, api.ErrRange},
		{"the least overlap of all", row(1), row(1), math.MinInt, api.ErrRange},
		{"an overlap of 0 with too many columns", wide, wide, 0, api.ErrRange},
		{"65 columns", wide, row(0, 0), 1, api.ErrLarge},
		{"65 columns that do not agree", wide, row(5, 0), 1, api.ErrLarge},
		{"no whole turns", row(1, 2), row(3, 4), 1, api.ErrUnit},
		{"no whole turns at the last pixel", phases(2, 2, 0, 1, 2, 3), phases(2, 2, 4097, 0, 4, 0), 1, api.ErrUnit},
		{"half a turn", row(0, 0), row(0, 2048), 2, api.ErrUnit},
		{"void pixels of a", row(1, void), row(2, 3), 1, api.ErrNone},
		{"void pixels of b", row(1, 2), row(void, 3), 1, api.ErrNone},
		{"void pixels in turn", row(void, 5), row(4, void, 100000000), 2, api.ErrNone},
		{"a great phase", row(99999744), row(0, 257), 1, api.ErrLarge},
		{"a small phase", row(-99999744), row(0, -257), 1, api.ErrLarge},
		{"a great phase where a is void", row(99999744, void), row(0, 257), 2, api.ErrLarge},
	} {
		got, disagree, err := unwrap.Joined(x.a, x.b, x.overlap)
		expect(t, x.what, got, err, api.PhaseMap{}, x.err)
		expect(t, "the disagreement: "+x.what, disagree, err, 0, x.err)
	}
	for _, x := range append(sizeFaults(), phaseFaults()...) {
		got, _, err := unwrap.Joined(x.m, api.PhaseMap{}, 0)
		expect(t, "the first map: "+x.what, got, err, api.PhaseMap{}, x.err)
		got, _, err = unwrap.Joined(phases(2, 1, 1, 1), x.m, 0)
		expect(t, "the second map: "+x.what, got, err, api.PhaseMap{}, x.err)
	}
	_, _, err := unwrap.Joined(row(100000001), api.PhaseMap{Rows: 1, Columns: 1}, 1)
	expectError(t, "two wrong maps", err, api.ErrRange)
}

// P5.8: the votes are counted in the same way each time.
func TestJoinedAgain(t *testing.T) {
	var a, b []int
	for i := range 60 {
		a, b = append(a, 4096*(i*7%20-10)), append(b, 0)
	}
	for range 20 {
		got, disagree, err := unwrap.Joined(row(a...), row(append(b, 5)...), 60)
		expect(t, "the last phase", got.Phases[60], err, 5-40960, api.OK)
		expect(t, "the disagreement", disagree, err, 57, api.OK)
	}
}
