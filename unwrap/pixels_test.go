package unwrap_test

import (
	"math"
	"slices"
	"testing"

	"swath/api"
	"swath/unwrap"
)

// P5.6
func TestAlong(t *testing.T) {
	m := square().Map
	wide := phases(3, 3, 0, 1, 2, 3, 4, 5, 6, 7, 8)
	holed := row(0, void, 2)
	for _, x := range []struct {
		what string
		m    api.PhaseMap
		path []int
		want []int
		err  api.Errno
	}{
		{"the example", m, []int{0, 1, 3}, []int{0, 1500, 3000}, api.OK},
		{"the other way of the example", m, []int{0, 2, 3}, []int{0, -1500, -1096}, api.OK},
		{"around", m, []int{0, 1, 3, 2, 0}, []int{0, 1500, 3000, 2596, 4096}, api.OK},
		{"there and back", m, []int{1, 3, 1}, []int{1500, 3000, 1500}, api.OK},
		{"half a turn to the right", row(0, -2048), []int{0, 1}, []int{0, -2048}, api.OK},
		{"half a turn to the left", row(0, -2048), []int{1, 0}, []int{-2048, 0}, api.OK},
		{"half a turn up to 2047", row(-1, 2047), []int{0, 1}, []int{-1, -2049}, api.OK},
		{"half a turn back from 2047", row(-1, 2047), []int{1, 0, 1}, []int{2047, 4095, 2047}, api.OK},
		{"half turns down and up", phases(2, 1, 0, -2048), []int{1, 0, 1, 0}, []int{-2048, 0, -2048, 0}, api.OK},
		{"half a turn the other way", phases(2, 1, -2048, 0), []int{1, 0}, []int{0, 2048}, api.OK},
		{"one pixel", m, []int{2}, []int{-1500}, api.OK},
		{"no pixels", m, nil, nil, api.OK},
		{"all of nine pixels", wide, []int{4, 1, 0, 3, 6, 7, 8, 5, 2}, []int{4, 1, 0, 3, 6, 7, 8, 5, 2}, api.OK},
		{"one column", phases(3, 1, 5, 6, 7), []int{2, 1, 0}, []int{7, 6, 5}, api.OK},
		{"pixels below 0", m, []int{0, -1}, nil, api.ErrMissing},
		{"a pixel behind the last one", m, []int{4}, nil, api.ErrMissing},
		{"the greatest pixel of all", m, []int{math.MaxInt}, nil, api.ErrMissing},
		{"the least pixel of all", m, []int{3, math.MinInt}, nil, api.ErrMissing},
		{"a void pixel", holed, []int{0, 1}, nil, api.ErrVoid},
		{"a void pixel first", holed, []int{1, 2}, nil, api.ErrVoid},
		{"a void pixel that is no neighbour", phases(2, 2, 0, 1, 2, void), []int{0, 3}, nil, api.ErrVoid},
		{"over a void pixel", holed, []int{0, 2}, nil, api.ErrGap},
		{"across a corner", m, []int{0, 3}, nil, api.ErrGap},
		{"the same pixel", m, []int{0, 0}, nil, api.ErrGap},
		{"from row to row", wide, []int{2, 3}, nil, api.ErrGap},
		{"from row to row, back", wide, []int{6, 5}, nil, api.ErrGap},
		{"two rows down", wide, []int{1, 7}, nil, api.ErrGap},
		{"two columns", wide, []int{3, 5}, nil, api.ErrGap},
		{"a gap before a void pixel", holed, []int{0, 2, 1}, nil, api.ErrGap},
		{"a gap before a missing pixel", m, []int{1, 2, 4}, nil, api.ErrGap},
	} {
		before, beforePath := copyOfMap(x.m), slices.Clone(x.path)
		got, err := unwrap.Along(x.m, x.path)
		expect(t, x.what, got, err, x.want, x.err)
		expect(t, "the map behind Along", x.m, api.OK, before, api.OK)
		expect(t, "the path behind Along", x.path, api.OK, beforePath, api.OK)
	}
}

// P5.6
func TestLongPaths(t *testing.T) {
	m := phases(64, 64, make([]int, 4096)...)
	var path, want []int
	for i := range 200 {
		path = append(path, 4095-i%2)
		want = append(want, 0)
	}
	got, err := unwrap.Along(m, path)
	expect(t, "200 pixels", got, err, want, api.OK)
	got, err = unwrap.Along(m, append(path, 4095))
	expect(t, "201 pixels", got, err, nil, api.ErrLarge)
	got, err = unwrap.Along(m, equal(201, -1))
	expect(t, "201 wrong pixels", got, err, nil, api.ErrLarge)
	var ramp []int
	for i := range 64 {
		ramp = append(ramp, wrapped(2047*i))
	}
	path, want = nil, nil
	for i := range 64 {
		path, want = append(path, i), append(want, 2047*i)
	}
	got, err = unwrap.Along(row(ramp...), path)
	expect(t, "a ramp", got, err, want, api.OK)
	for _, x := range append(sizeFaults(), wrappedFaults()...) {
		got, err = unwrap.Along(x.m, equal(201, -1))
		expect(t, x.what, got, err, nil, x.err)
	}
}

// P5.7
func TestWeightsOf(t *testing.T) {
	for _, x := range []struct {
		what         string
		c            api.FloatMap
		across, down []int
		err          api.Errno
	}{
		{"the example", floats(2, 2, 900, 400, 1000, 0), []int{400, 0}, []int{900, 0}, api.OK},
		{"a row", floats(1, 4, 3, 1, 2, 1000), []int{1, 1, 2}, nil, api.OK},
		{"a column", floats(3, 1, 3, 1, 2), nil, []int{1, 1}, api.OK},
		{"two rows", floats(2, 3, 6, 5, 4, 3, 9, 1), []int{5, 4, 3, 1}, []int{3, 5, 1}, api.OK},
		{"one pixel", floats(1, 1, 7), nil, nil, api.OK},
		{"-0", floats(1, 2, 7, float32(math.Copysign(0, -1))), []int{0}, nil, api.OK},
		{"144 pixels", floats(3, 48, make([]float32, 144)...), make([]int, 141), make([]int, 96), api.OK},
		{"no rows", floats(0, 1), nil, nil, api.ErrRange},
		{"65 rows", floats(65, 1, make([]float32, 65)...), nil, nil, api.ErrRange},
		{"65 columns", floats(1, 65, make([]float32, 65)...), nil, nil, api.ErrRange},
		{"columns below 0", floats(1, -1, 5), nil, nil, api.ErrRange},
		{"too few numbers", floats(2, 2, 0.5, 1, 1), nil, nil, api.ErrShape},
		{"too many numbers", floats(1, 1, 1, 2), nil, nil, api.ErrShape},
		{"145 pixels", floats(29, 5, make([]float32, 145)...), nil, nil, api.ErrLarge},
		{"145 halves", floats(29, 5, slices.Repeat([]float32{0.5}, 145)...), nil, nil, api.ErrLarge},
		{"145 pixels with a number too few", floats(29, 5, make([]float32, 144)...), nil, nil, api.ErrShape},
		{"a half", floats(1, 2, 1, 0.5), nil, nil, api.ErrWhole},
		{"not a number", floats(1, 1, float32(math.NaN())), nil, nil, api.ErrWhole},
		{"infinity", floats(1, 2, 1, float32(math.Inf(1))), nil, nil, api.ErrWhole},
		{"minus infinity", floats(1, 1, float32(math.Inf(-1))), nil, nil, api.ErrWhole},
		{"a half below 0", floats(1, 1, -0.5), nil, nil, api.ErrWhole},
		{"a great number with a half", floats(1, 1, 1000.5), nil, nil, api.ErrWhole},
		{"below 0", floats(1, 2, 0, -1), nil, nil, api.ErrRange},
		{"1001", floats(2, 1, 1000, 1001), nil, nil, api.ErrRange},
		{"10^30", floats(1, 1, 1e30), nil, nil, api.ErrRange},
		{"a great number before a half", floats(1, 2, 1001, 0.5), nil, nil, api.ErrRange},
		{"a half before a great number", floats(1, 2, 0.5, 1001), nil, nil, api.ErrWhole},
	} {
		before := slices.Clone(x.c.Data)
		across, down, err := unwrap.WeightsOf(x.c)
		expect(t, "across: "+x.what, across, err, x.across, x.err)
		expect(t, "down: "+x.what, down, err, x.down, x.err)
		if len(before) > 0 && before[0] == before[0] {
			expect(t, "the map behind WeightsOf", x.c.Data, api.OK, before, api.OK)
		}
	}
}

// P5.7: the weights are those of a task of this size, and both lists have memory of their own.
func TestWeightsOfTasks(t *testing.T) {
	c := floats(2, 2, 900, 400, 1000, 0)
	across, down, err := unwrap.WeightsOf(c)
	expectError(t, "WeightsOf", err, api.OK)
	expectError(t, "a task with them", unwrap.CheckTask(task(square().Map, across, down)), api.OK)
	grown := append(across, 77)
	expect(t, "the weights down behind a change", down, api.OK, []int{900, 0}, api.OK)
	expect(t, "the weights across", grown, api.OK, []int{400, 0, 77}, api.OK)
}
