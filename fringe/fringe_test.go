package fringe_test

import (
	"testing"

	"swath/api"
	"swath/fringe"
)

// P4.1
func TestCheckMap(t *testing.T) {
	for _, x := range mapFaults() {
		at, err := fringe.CheckMap(x.m)
		expect(t, "a map with "+x.what, at, err, x.at, x.err)
	}
	for _, m := range []api.PhaseMap{
		phases(1, 1, 0), phases(1, 1, void), phases(1, 2, 100000000, -100000000), phases(2, 1, 4096, -5000),
		phases(64, 64, make([]int, 4096)...), phases(1, 64, make([]int, 64)...), phases(64, 1, make([]int, 64)...),
	} {
		at, err := fringe.CheckMap(m)
		expect(t, "a map", at, err, 0, api.OK)
	}
}

// P4.1
func TestCheckFloatMap(t *testing.T) {
	for _, x := range floatFaults() {
		at, err := fringe.CheckFloatMap(x.h)
		expect(t, "a float map with "+x.what, at, err, x.at, x.err)
	}
	for _, h := range []api.FloatMap{
		floats(1, 1, 0), floats(1, 1, float32(minusZero)), floats(1, 2, 100000, -100000),
		floats(64, 64, make([]float32, 4096)...), floats(1, 64, make([]float32, 64)...), floats(64, 1, make([]float32, 64)...),
	} {
		at, err := fringe.CheckFloatMap(h)
		expect(t, "a float map", at, err, 0, api.OK)
	}
}

// P4.2, P4.4: the errors of images come first, those of the first one before those of the second one, then that of both together.
func TestErrorsOfImages(t *testing.T) {
	good := image(1, 1, 1)
	for _, x := range imageFaults() {
		expectErrorsOfImages(t, "first with "+x.what, x.im, good, x.err)
		expectErrorsOfImages(t, "second with "+x.what, good, x.im, x.err)
	}
	expectErrorsOfImages(t, "both wrong", image(1, 1, 0.5), image(1, 1, 2048), api.ErrWhole)
	expectErrorsOfImages(t, "both wrong", image(1, 1, 2048), image(1, 1, 0.5), api.ErrRange)
	expectErrorsOfImages(t, "other lines", image(1, 2, 1, 1), image(2, 2, 1, 1, 1, 1), api.ErrClash)
	expectErrorsOfImages(t, "other samples", image(2, 2, 1, 1, 1, 1), image(2, 1, 1, 1), api.ErrClash)
	expectErrorsOfImages(t, "turned sizes", image(1, 2, 1, 1), image(2, 1, 1, 1), api.ErrClash)
}

func expectErrorsOfImages(t *testing.T, what string, a, b api.RadarImage, want api.Errno) {
	t.Helper()
	f, err := fringe.Interfere(a, b)
	expect(t, "Interfere: "+what, f, err, api.RadarField{}, want)
	c, err := fringe.Coherence(a, b, -1)
	expect(t, "Coherence: "+what, c, err, api.FloatMap{}, want)
}

// P4.2: the errors of fields come first.
func TestErrorsOfFields(t *testing.T) {
	for _, x := range fieldFaults() {
		f, err := fringe.Looked(x.f, [2]int{})
		expect(t, "Looked of "+x.what, f, err, api.RadarField{}, x.err)
		f, err = fringe.Filtered(x.f, -1)
		expect(t, "Filtered of "+x.what, f, err, api.RadarField{}, x.err)
		m, err := fringe.PhasesOf(x.f)
		expect(t, "PhasesOf "+x.what, m, err, api.PhaseMap{}, x.err)
	}
}

// P4.3 to P4.7: the errors of a map come first, with all further arguments wrong, too.
func TestErrorsOfMaps(t *testing.T) {
	great := model(100000001, 0, 0, 0)
	for _, x := range mapFaults() {
		for what, call := range map[string]func() (api.PhaseMap, api.Errno){
			"Wrapped":    func() (api.PhaseMap, api.Errno) { return fringe.Wrapped(x.m) },
			"Difference": func() (api.PhaseMap, api.Errno) { return fringe.Difference(x.m, phases(1, 1)) },
			"Total":      func() (api.PhaseMap, api.Errno) { return fringe.Total(x.m, phases(1, 1)) },
			"Flattened":  func() (api.PhaseMap, api.Errno) { return fringe.Flattened(x.m, great, floats(1, 1, 0.5)) },
			"Masked":     func() (api.PhaseMap, api.Errno) { return fringe.Masked(x.m, floats(1, 1, 0.5), 100001) },
			"Closure":    func() (api.PhaseMap, api.Errno) { return fringe.Closure(x.m, phases(1, 1), phases(1, 1)) },
		} {
			m, err := call()
			expect(t, what+" of "+x.what, m, err, api.PhaseMap{}, x.err)
		}
		step, err := fringe.StepAt(x.m, [2]int{-1, -1}, true)
		expect(t, "StepAt of "+x.what, step, err, 0, x.err)
		l, err := fringe.Residues(x.m)
		expect(t, "Residues of "+x.what, l, err, nil, x.err)
		turns, err := fringe.TurnsAround(x.m, api.FringeBox{})
		expect(t, "TurnsAround of "+x.what, turns, err, 0, x.err)
		step, err = fringe.CommonStep(x.m, false)
		expect(t, "CommonStep of "+x.what, step, err, 0, x.err)
		counts, err := fringe.Histogram(x.m, 0)
		expect(t, "Histogram of "+x.what, counts, err, nil, x.err)
		text, err := fringe.Print(x.m)
		expect(t, "Print of "+x.what, text, err, "", x.err)
	}
}

// P4.3, P4.6: all maps are looked at before their sizes are held against each other.
func TestErrorsOfMapsTogether(t *testing.T) {
	good, wide, high := phases(2, 2, 1, 2, 3, 4), phases(2, 3, 1, 2, 3, 4, 5, 6), phases(3, 2, 1, 2, 3, 4, 5, 6)
	for _, x := range mapFaults() {
		expectErrorsOfTwo(t, "second with "+x.what, good, x.m, x.err)
		expectErrorsOfThree(t, "second with "+x.what, good, x.m, wide, x.err)
		expectErrorsOfThree(t, "third with "+x.what, good, wide, x.m, x.err)
	}
	for _, m := range []api.PhaseMap{wide, high} {
		expectErrorsOfTwo(t, "other sizes", good, m, api.ErrClash)
		expectErrorsOfTwo(t, "other sizes", m, good, api.ErrClash)
		expectErrorsOfThree(t, "another first one", m, good, good, api.ErrClash)
		expectErrorsOfThree(t, "another second one", good, m, good, api.ErrClash)
		expectErrorsOfThree(t, "another third one", good, good, m, api.ErrClash)
	}
	expectErrorsOfTwo(t, "turned sizes", wide, high, api.ErrClash)
	expectErrorsOfTwo(t, "both wrong", phases(1, 1), phases(0, 1), api.ErrShape)
	expectErrorsOfTwo(t, "both wrong", phases(0, 1), phases(1, 1), api.ErrRange)
	expectErrorsOfThree(t, "two wrong", good, phases(1, 1), phases(0, 1), api.ErrShape)
}

func expectErrorsOfTwo(t *testing.T, what string, a, b api.PhaseMap, want api.Errno) {
	t.Helper()
	m, err := fringe.Difference(a, b)
	expect(t, "Difference: "+what, m, err, api.PhaseMap{}, want)
	m, err = fringe.Total(a, b)
	expect(t, "Total: "+what, m, err, api.PhaseMap{}, want)
}

func expectErrorsOfThree(t *testing.T, what string, ab, bc, ac api.PhaseMap, want api.Errno) {
	t.Helper()
	m, err := fringe.Closure(ab, bc, ac)
	expect(t, "Closure: "+what, m, err, api.PhaseMap{}, want)
}
