package fringe_test

import (
	"slices"
	"testing"

	"swath/api"
	"swath/fringe"
)

// P4.3
func TestWrapped(t *testing.T) {
	for _, x := range [][2]int{
		{0, 0}, {1, 1}, {-1, -1}, {2047, 2047}, {2048, -2048}, {2049, -2047}, {-2048, -2048}, {-2049, 2047}, {-2050, 2046},
		{4095, -1}, {4096, 0}, {-4096, 0}, {-4097, -1}, {6143, 2047}, {6144, -2048}, {-6144, -2048}, {-6145, 2047},
		{100000000, 256}, {-100000000, -256}, {99999999, 255}, {void, void},
	} {
		got, err := fringe.Wrapped(phases(1, 1, x[0]))
		expect(t, "Wrapped", got, err, phases(1, 1, x[1]), api.OK)
	}
	m := phases(2, 3, 5000, void, -1, 2048, 0, -5000)
	before := copyOfMap(m)
	got, err := fringe.Wrapped(m)
	expect(t, "Wrapped", got, err, phases(2, 3, 904, void, -1, -2048, 0, -904), api.OK)
	got.Phases[2] = 7
	expect(t, "the map behind Wrapped", m, api.OK, before, api.OK)
}

type mapPair struct {
	what        string
	a, b        api.PhaseMap
	less, added api.PhaseMap
}

// P4.3
func TestDifferenceAndTotal(t *testing.T) {
	pairs := []mapPair{
		{"the example", phases(1, 2, 2047, 2000), phases(1, 2, -2, 100), phases(1, 2, -2047, 1900), phases(1, 2, 2045, -1996)},
		{"half a turn", phases(1, 3, 1024, -1024, 0), phases(1, 3, -1024, 1024, -2048), phases(1, 3, -2048, -2048, -2048), phases(1, 3, 0, 0, -2048)},
		{"void ones", phases(2, 2, void, 5, void, 6), phases(2, 2, 7, void, void, 8), phases(2, 2, void, void, void, -2), phases(2, 2, void, void, void, 14)},
		{"the greatest phases", phases(1, 2, 100000000, -100000000), phases(1, 2, -100000000, 100000000), phases(1, 2, 512, -512), phases(1, 2, 0, 0)},
	}
	numbers := source(5)
	for range 10 {
		x := mapPair{"the definition", numbers.phases(7, 5, 9000, 6), numbers.phases(7, 5, 9000, 6), phases(7, 5), phases(7, 5)}
		for i, p := range x.a.Phases {
			less, added := void, void
			if q := x.b.Phases[i]; p != void && q != void {
				less, added = wrapped(p-q), wrapped(p+q)
			}
			x.less.Phases, x.added.Phases = append(x.less.Phases, less), append(x.added.Phases, added)
		}
		pairs = append(pairs, x)
	}
	for _, x := range pairs {
		first, second := copyOfMap(x.a), copyOfMap(x.b)
		got, err := fringe.Difference(x.a, x.b)
		expect(t, "Difference: "+x.what, got, err, x.less, api.OK)
		got, err = fringe.Total(x.a, x.b)
		expect(t, "Total: "+x.what, got, err, x.added, api.OK)
		expect(t, "the first map", x.a, api.OK, first, api.OK)
		expect(t, "the second map", x.b, api.OK, second, api.OK)
	}
}

// P4.6
func TestClosure(t *testing.T) {
	for _, x := range []struct {
		what             string
		ab, bc, ac, want api.PhaseMap
	}{
		{"the example", phases(1, 1, 100), phases(1, 1, 200), phases(1, 1, 250), phases(1, 1, 50)},
		{"turns", phases(2, 2, 2000, 2047, -2048, -2048), phases(2, 2, 2000, 2047, -2048, -1), phases(2, 2, -96, -2048, 2047, 2047), phases(2, 2, 0, 2046, -2047, 0)},
		{"half a turn", phases(1, 2, 1024, -1024), phases(1, 2, 1024, -1024), phases(1, 2, 0, 0), phases(1, 2, -2048, -2048)},
		{"void ones", phases(1, 4, void, 1, 1, 1), phases(1, 4, 1, void, 1, 1), phases(1, 4, 1, 1, void, 1), phases(1, 4, void, void, void, 1)},
		{"the greatest phases", phases(1, 1, 100000000), phases(1, 1, 100000000), phases(1, 1, -100000000), phases(1, 1, 768)},
	} {
		got, err := fringe.Closure(x.ab, x.bc, x.ac)
		expect(t, x.what, got, err, x.want, api.OK)
	}
	numbers := source(6)
	ab, bc, ac := numbers.phases(8, 9, 9000, 10), numbers.phases(8, 9, 9000, 10), numbers.phases(8, 9, 9000, 10)
	maps := []api.PhaseMap{copyOfMap(ab), copyOfMap(bc), copyOfMap(ac)}
	want := phases(8, 9)
	for i := range 72 {
		n := void
		if !slices.Contains([]int{ab.Phases[i], bc.Phases[i], ac.Phases[i]}, void) {
			n = wrapped(ab.Phases[i] + bc.Phases[i] - ac.Phases[i])
		}
		want.Phases = append(want.Phases, n)
	}
	got, err := fringe.Closure(ab, bc, ac)
	expect(t, "the definition", got, err, want, api.OK)
	expect(t, "the maps behind it", []api.PhaseMap{ab, bc, ac}, api.OK, maps, api.OK)
}

// P4.6
func TestHistogram(t *testing.T) {
	example := phases(1, 3, 0, -2048, 2047)
	for _, x := range []struct {
		what string
		m    api.PhaseMap
		bins int
		want []int
		err  api.Errno
	}{
		{"the example", example, 4, []int{1, 0, 1, 1}, api.OK},
		{"one bin", example, 1, []int{3}, api.OK},
		{"two bins", example, 2, []int{1, 2}, api.OK},
		{"borders of bins", phases(2, 3, -1025, -1024, -1, 0, 1023, 1024), 4, []int{1, 2, 2, 1}, api.OK},
		{"phases that are not wrapped", phases(1, 4, 2048, -2049, 4096, 100000000), 2, []int{1, 3}, api.OK},
		{"void ones", phases(2, 2, void, 5, void, void), 2, []int{0, 1}, api.OK},
		{"void ones alone", phases(1, 2, void, void), 4, []int{0, 0, 0, 0}, api.OK},
		{"no bins", example, 0, nil, api.ErrRange},
		{"bins below 0", example, -4, nil, api.ErrRange},
		{"4097 bins", example, 4097, nil, api.ErrRange},
		{"8192 bins", example, 8192, nil, api.ErrRange},
		{"three bins", example, 3, nil, api.ErrShape},
		{"4095 bins", example, 4095, nil, api.ErrShape},
	} {
		got, err := fringe.Histogram(x.m, x.bins)
		expect(t, x.what, got, err, x.want, x.err)
	}
	got, err := fringe.Histogram(phases(1, 4, -2048, 2047, -2047, 2048), 4096)
	want := make([]int, 4096)
	want[0], want[1], want[4095] = 2, 1, 1
	expect(t, "4096 bins", got, err, want, api.OK)
}
