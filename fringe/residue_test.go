package fringe_test

import (
	"math"
	"testing"

	"swath/api"
	"swath/fringe"
)

// P4.5
func TestStepAt(t *testing.T) {
	m := phases(2, 3, 0, 1024, void, -1024, -2048, 5000)
	for _, x := range []struct {
		what string
		at   [2]int
		down bool
		want int
		err  api.Errno
	}{
		{"right above", [2]int{0, 0}, false, 1024, api.OK},
		{"right below", [2]int{1, 0}, false, -1024, api.OK},
		{"down at the left", [2]int{0, 0}, true, -1024, api.OK},
		{"down in the middle", [2]int{0, 1}, true, 1024, api.OK},
		{"to a phase that is not wrapped", [2]int{1, 1}, false, -1144, api.OK},
		{"to a void pixel", [2]int{0, 1}, false, 0, api.ErrVoid},
		{"from a void pixel", [2]int{0, 2}, true, 0, api.ErrVoid},
		{"right of the last column", [2]int{0, 2}, false, 0, api.ErrRange},
		{"right of the last pixel", [2]int{1, 2}, false, 0, api.ErrRange},
		{"below the last row", [2]int{1, 0}, true, 0, api.ErrRange},
		{"from a row before", [2]int{-1, 0}, true, 0, api.ErrRange},
		{"from a column before", [2]int{0, -1}, false, 0, api.ErrRange},
		{"from a row behind", [2]int{2, 0}, false, 0, api.ErrRange},
		{"from a column behind", [2]int{0, 3}, true, 0, api.ErrRange},
		{"from the greatest row", [2]int{math.MaxInt, 0}, true, 0, api.ErrRange},
		{"from the greatest column", [2]int{0, math.MaxInt}, false, 0, api.ErrRange},
		{"from the least place", [2]int{math.MinInt, math.MinInt}, true, 0, api.ErrRange},
	} {
		got, err := fringe.StepAt(m, x.at, x.down)
		expect(t, x.what, got, err, x.want, x.err)
	}
	for _, x := range [][3]int{{0, 2047, 2047}, {0, 2048, -2048}, {2048, 0, -2048}, {0, -2048, -2048}, {0, -2049, 2047}, {-2048, 2047, -1}, {100000000, -100000000, -512}} {
		got, err := fringe.StepAt(phases(1, 2, x[0], x[1]), [2]int{}, false)
		expect(t, "a step to the right", got, err, x[2], api.OK)
		got, err = fringe.StepAt(phases(2, 1, x[0], x[1]), [2]int{}, true)
		expect(t, "a step down", got, err, x[2], api.OK)
	}
}

// charged has a residue of one turn, as in the example.
func charged() api.PhaseMap { return phases(2, 2, 0, 1024, -1024, -2048) }

// P4.5
func TestResidues(t *testing.T) {
	for _, x := range []struct {
		what string
		m    api.PhaseMap
		want []api.FringeResidue
	}{
		{"the example", charged(), []api.FringeResidue{residue(0, 0, 1)}},
		{"the example mirrored", phases(2, 2, 1024, 0, -2048, -1024), []api.FringeResidue{residue(0, 0, -1)}},
		{"the example turned over", phases(2, 2, -1024, -2048, 0, 1024), []api.FringeResidue{residue(0, 0, -1)}},
		{"the example not wrapped", phases(2, 2, 4096, 1024, -1024-8192, 2048), []api.FringeResidue{residue(0, 0, 1)}},
		{"a void pixel", phases(2, 2, 0, 1024, -1024, void), nil},
		{"flat", phases(3, 3, make([]int, 9)...), nil},
		{"a row", phases(1, 4, 0, 1024, -2048, -1024), nil},
		{"a column", phases(4, 1, 0, 1024, -2048, -1024), nil},
		{"one pixel", phases(1, 1, 5), nil},
		{"two rows", phases(3, 3, 0, 1024, 0, -1024, -2048, -1024, 0, 1024, 0),
			[]api.FringeResidue{residue(0, 0, 1), residue(0, 1, -1), residue(1, 0, -1), residue(1, 1, 1)}},
		{"a void corner", phases(3, 3, void, 1024, 0, -1024, -2048, -1024, 0, 1024, 0),
			[]api.FringeResidue{residue(0, 1, -1), residue(1, 0, -1), residue(1, 1, 1)}},
		{"a void middle", phases(3, 3, 0, 1024, 0, -1024, void, -1024, 0, 1024, 0), nil},
	} {
		before := copyOfMap(x.m)
		got, err := fringe.Residues(x.m)
		expect(t, x.what, got, err, x.want, api.OK)
		expect(t, "the map behind Residues", x.m, api.OK, before, api.OK)
	}
}

// turns is the definition of the turns of a plaquette: its steps are those that StepAt gives.
func turns(t *testing.T, m api.PhaseMap, row, column int) (int, bool) {
	t.Helper()
	parts, known := 0, true
	for _, s := range []struct {
		at   [2]int
		down bool
		sign int
	}{{[2]int{row, column}, false, 1}, {[2]int{row, column + 1}, true, 1}, {[2]int{row + 1, column}, false, -1}, {[2]int{row, column}, true, -1}} {
		step, err := fringe.StepAt(m, s.at, s.down)
		known = known && err == api.OK
		parts += s.sign * step
	}
	if known && (parts%4096 != 0 || size(parts) > 4096) {
		t.Errorf("the plaquette %d, %d has %d parts", row, column, parts)
	}
	return parts / 4096, known
}

// P4.5
func TestResiduesByDefinition(t *testing.T) {
	numbers := source(10)
	found := 0
	for range 20 {
		m := numbers.phases(numbers.from(1, 10), numbers.from(1, 10), 6000, 12)
		var want []api.FringeResidue
		for row := range m.Rows - 1 {
			for column := range m.Columns - 1 {
				n, known := turns(t, m, row, column)
				if known && n != 0 {
					want = append(want, residue(row, column, n))
				}
				got, err := fringe.TurnsAround(m, box(row, column, 1, 1))
				if !known {
					expect(t, "TurnsAround a void pixel", got, err, 0, api.ErrVoid)
					continue
				}
				expect(t, "TurnsAround a plaquette", got, err, n, api.OK)
			}
		}
		got, err := fringe.Residues(m)
		expect(t, "Residues", got, err, want, api.OK)
		found += len(want)
	}
	if found < 20 {
		t.Errorf("only %d residues were found", found)
	}
}

// P4.5
func TestTurnsAround(t *testing.T) {
	ring := phases(3, 3, 0, 1024, -2048, -512, 0, -1024, -1024, -1024, -1024)
	void33 := phases(3, 3, 0, 1024, -2048, -512, void, -1024, -1024, -1024, -1024)
	corner := phases(3, 4, 0, 1, 2, 3, 0, 1, 2, void, 0, 1, 2, 3)
	for _, x := range []struct {
		what string
		m    api.PhaseMap
		b    api.FringeBox
		want int
		err  api.Errno
	}{
		{"the example", charged(), box(0, 0, 1, 1), 1, api.OK},
		{"a ring", ring, box(0, 0, 2, 2), 1, api.OK},
		{"a ring around a void pixel", void33, box(0, 0, 2, 2), 1, api.OK},
		{"a part with a void pixel", void33, box(0, 0, 1, 2), 0, api.ErrVoid},
		{"beside a void pixel", corner, box(0, 0, 2, 2), 0, api.OK},
		{"a void pixel at the right", corner, box(0, 0, 2, 3), 0, api.ErrVoid},
		{"a void corner", corner, box(0, 0, 1, 3), 0, api.ErrVoid},
		{"a void corner above", corner, box(1, 0, 1, 3), 0, api.ErrVoid},
		{"a void pixel at the left", phases(3, 2, 1, 2, void, 3, 4, 5), box(0, 0, 2, 1), 0, api.ErrVoid},
		{"a void pixel above", phases(2, 3, 1, void, 2, 3, 4, 5), box(0, 0, 1, 2), 0, api.ErrVoid},
		{"a void pixel below", phases(2, 3, 1, 2, 3, 4, void, 5), box(0, 0, 1, 2), 0, api.ErrVoid},
		{"no height", corner, box(0, 0, 0, 1), 0, api.ErrRange},
		{"no width", corner, box(0, 0, 1, 0), 0, api.ErrRange},
		{"sizes below 0", corner, box(2, 2, -1, -1), 0, api.ErrRange},
		{"a row before", corner, box(-1, 0, 1, 1), 0, api.ErrRange},
		{"a column before", corner, box(0, -1, 1, 1), 0, api.ErrRange},
		{"too high", corner, box(0, 0, 3, 1), 0, api.ErrRange},
		{"too high with a void pixel", corner, box(1, 2, 2, 1), 0, api.ErrRange},
		{"too wide", corner, box(0, 0, 1, 4), 0, api.ErrRange},
		{"too wide with a void pixel", corner, box(1, 3, 1, 1), 0, api.ErrRange},
		{"behind the last row", corner, box(2, 0, 1, 1), 0, api.ErrRange},
		{"far behind the last row", corner, box(math.MaxInt, 0, 1, 1), 0, api.ErrRange},
		{"far behind the last column", corner, box(0, math.MaxInt, 1, 1), 0, api.ErrRange},
		{"the greatest sizes", corner, box(1, 1, math.MaxInt, math.MaxInt), 0, api.ErrRange},
		{"the greatest height at a void pixel", corner, box(1, 2, math.MaxInt, 1), 0, api.ErrRange},
		{"the greatest width at a void pixel", corner, box(1, 3, 1, math.MaxInt), 0, api.ErrRange},
		{"the greatest width above a void pixel", phases(2, 2, 1, 2, void, 3), box(0, 1, 1, math.MaxInt), 0, api.ErrRange},
		{"the least places", corner, box(math.MinInt, math.MinInt, math.MaxInt, math.MaxInt), 0, api.ErrRange},
		{"one pixel", phases(1, 1, 0), box(0, 0, 1, 1), 0, api.ErrRange},
		{"nothing", corner, api.FringeBox{}, 0, api.ErrRange},
	} {
		got, err := fringe.TurnsAround(x.m, x.b)
		expect(t, x.what, got, err, x.want, x.err)
	}
}

// P4.5: a ring may have more than one turn.
func TestManyTurns(t *testing.T) {
	ring := phases(4, 4, make([]int, 16)...)
	around := []int{0, 1, 2, 3, 7, 11, 15, 14, 13, 12, 8, 4}
	for _, n := range []int{-3, -2, -1, 0, 1, 2, 3} {
		for i, at := range around {
			ring.Phases[at] = wrapped(n * 4096 * i / len(around))
		}
		got, err := fringe.TurnsAround(ring, box(0, 0, 3, 3))
		expect(t, "a ring", got, err, n, api.OK)
	}
}

// P4.6
func TestCommonStep(t *testing.T) {
	for _, x := range []struct {
		what string
		m    api.PhaseMap
		down bool
		want int
		err  api.Errno
	}{
		{"the example", phases(1, 4, 0, 10, 20, 5), false, 10, api.OK},
		{"the example as a column", phases(4, 1, 0, 10, 20, 5), true, 10, api.OK},
		{"the least one of two", phases(1, 5, 0, 7, 14, 11, 8), false, -3, api.OK},
		{"the least one of all", phases(1, 4, 0, 9, 4, 6), false, -5, api.OK},
		{"the least one of those that are most", phases(1, 6, 0, -9, -5, -1, 4, 9), false, 4, api.OK},
		{"steps of all rows", phases(2, 3, 0, 5, 6, 0, 1, 2), false, 1, api.OK},
		{"steps of all columns", phases(3, 2, 0, 0, 5, 1, 6, 2), true, 1, api.OK},
		{"rows and columns", phases(2, 2, 0, 1, 100, 101), false, 1, api.OK},
		{"rows and columns down", phases(2, 2, 0, 1, 100, 101), true, 100, api.OK},
		{"no step from row to row", phases(2, 2, 0, 1, 50, 52), false, 1, api.OK},
		{"half a turn", phases(1, 3, 0, 2048, 0), false, -2048, api.OK},
		{"void ones", phases(1, 6, 0, 3, void, 4, 4, void), false, 0, api.OK},
		{"void ones between", phases(1, 5, 0, void, 1, void, 2), false, 0, api.ErrNone},
		{"void ones alone", phases(2, 2, void, void, void, void), true, 0, api.ErrNone},
		{"one pixel", phases(1, 1, 5), false, 0, api.ErrNone},
		{"a row, down", phases(1, 4, 0, 10, 20, 5), true, 0, api.ErrNone},
		{"a column, to the right", phases(4, 1, 0, 10, 20, 5), false, 0, api.ErrNone},
	} {
		for range 5 {
			got, err := fringe.CommonStep(x.m, x.down)
			expect(t, x.what, got, err, x.want, x.err)
		}
	}
}

// P4.6
func TestCommonStepByDefinition(t *testing.T) {
	numbers := source(11)
	for range 20 {
		m := numbers.phases(9, 7, 4, 9)
		for _, down := range []bool{false, true} {
			var steps []int
			for i := range m.Phases {
				if n, err := fringe.StepAt(m, [2]int{i / 7, i % 7}, down); err == api.OK {
					steps = append(steps, n)
				}
			}
			best, most := 0, 0
			for step := -8; step <= 8; step++ {
				count := 0
				for _, n := range steps {
					if n == step {
						count++
					}
				}
				if count > most {
					best, most = step, count
				}
			}
			got, err := fringe.CommonStep(m, down)
			expect(t, "CommonStep", got, err, best, api.OK)
		}
	}
}
