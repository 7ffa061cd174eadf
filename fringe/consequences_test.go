package fringe_test

import (
	"slices"
	"testing"

	"swath/api"
	"swath/fringe"
)

// phasesBetween gives the phases of the interferogram of two images.
func phasesBetween(t *testing.T, a, b api.RadarImage) api.PhaseMap {
	t.Helper()
	f, err := fringe.Interfere(a, b)
	expectError(t, "Interfere", err, api.OK)
	m, err := fringe.PhasesOf(f)
	expectError(t, "PhasesOf", err, api.OK)
	return m
}

// P4.8
func TestPhasesOfImageWithItself(t *testing.T) {
	numbers := source(20)
	im := numbers.image(20, 20, 1)
	for i, n := range phasesBetween(t, im, im).Phases {
		want := 0
		if im.Data[i] == 0 {
			want = void
		}
		expect(t, "the phase", n, api.OK, want, api.OK)
	}
}

// P4.8
func TestClosureOfThreeScenes(t *testing.T) {
	numbers := source(21)
	for _, sample := range []int{1, 2, 20, api.MaxSample} {
		a, b, c := numbers.image(20, 20, sample), numbers.image(20, 20, sample), numbers.image(20, 20, sample)
		closed, err := fringe.Closure(phasesBetween(t, a, b), phasesBetween(t, b, c), phasesBetween(t, a, c))
		expectError(t, "Closure", err, api.OK)
		for i, n := range closed.Phases {
			empty := a.Data[i] == 0 || b.Data[i] == 0 || c.Data[i] == 0
			if empty != (n == void) || !empty && size(n) > 2 {
				t.Errorf("%v, %v and %v close by %d", a.Data[i], b.Data[i], c.Data[i], n)
			}
		}
	}
}

// P4.8
func TestTotalOfDifference(t *testing.T) {
	numbers := source(22)
	for range 10 {
		a, b := numbers.phases(8, 8, 90000000, 9), numbers.phases(8, 8, 90000000, 0)
		less, err := fringe.Difference(a, b)
		expectError(t, "Difference", err, api.OK)
		want, err := fringe.Wrapped(a)
		expectError(t, "Wrapped", err, api.OK)
		got, err := fringe.Total(less, b)
		expect(t, "Total of a Difference and its second map", got, err, want, api.OK)
	}
}

// P4.9
func TestTurnsAroundAreThoseOfPlaquettes(t *testing.T) {
	numbers := source(23)
	turned := 0
	for range 60 {
		m := numbers.phases(numbers.from(2, 12), numbers.from(2, 12), 3000, 0)
		b := box(numbers.below(m.Rows-1), numbers.below(m.Columns-1), 0, 0)
		b.High, b.Wide = numbers.from(1, m.Rows-1-b.Row), numbers.from(1, m.Columns-1-b.Column)
		residues, err := fringe.Residues(m)
		expectError(t, "Residues", err, api.OK)
		want := 0
		for _, x := range residues {
			if x.Row >= b.Row && x.Row < b.Row+b.High && x.Column >= b.Column && x.Column < b.Column+b.Wide {
				want += x.Turns
			}
		}
		got, err := fringe.TurnsAround(m, b)
		expect(t, "TurnsAround", got, err, want, api.OK)
		turned += size(got)
	}
	if turned < 10 {
		t.Errorf("all boxes together have %d turns only", turned)
	}
}

// P4.9
func TestModelsHaveNoResidues(t *testing.T) {
	numbers := source(24)
	for range 20 {
		h := numbers.floats(12, 12, 300)
		x := model(numbers.from(-9999999, 9999999), numbers.from(-700000, 700000), numbers.from(-700000, 700000), numbers.from(-2000, 2000))
		m, err := fringe.ModelPhases(x, h)
		expectError(t, "ModelPhases", err, api.OK)
		m, err = fringe.Wrapped(m)
		expectError(t, "Wrapped", err, api.OK)
		residues, err := fringe.Residues(m)
		expect(t, "the residues of a model", residues, err, nil, api.OK)
	}
}

// P4.10
func TestCoherenceOfImageWithItself(t *testing.T) {
	numbers := source(25)
	for half := range 5 {
		im := numbers.image(12, 12, 1)
		for i := range im.Data {
			if i%12 < 8 {
				im.Data[i] = 0
			}
		}
		c, err := fringe.Coherence(im, im, half)
		expectError(t, "Coherence", err, api.OK)
		energies := windowSums(12, 12, products(im, im), half)
		for i, got := range c.Data {
			want := float32(1000)
			if energies[i][0] == 0 {
				want = 0
			}
			expect(t, "the coherence of an image with itself", got, api.OK, want, api.OK)
		}
	}
}

// P4.10
func TestCoherenceInAnyOrder(t *testing.T) {
	numbers := source(26)
	for half := range 5 {
		a, b := numbers.image(10, 12, 40), numbers.image(10, 12, 40)
		want, wantErr := fringe.Coherence(a, b, half)
		got, err := fringe.Coherence(b, a, half)
		expect(t, "the other order", got, err, want, wantErr)
		if !slices.ContainsFunc(got.Data, func(x float32) bool { return x > 0 && x < 1000 }) && half > 0 {
			t.Errorf("the coherences %v tell nothing", got.Data)
		}
	}
}

// P4.10
func TestLooksOfLooks(t *testing.T) {
	numbers := source(27)
	for range 40 {
		f := numbers.field(numbers.from(6, 30), numbers.from(6, 30), 200000)
		first := [2]int{numbers.from(1, 3), numbers.from(1, 3)}
		second := [2]int{numbers.from(1, 2), numbers.from(1, 2)}
		want, err := fringe.Looked(f, [2]int{first[0] * second[0], first[1] * second[1]})
		expectError(t, "Looked by the products", err, api.OK)
		once, err := fringe.Looked(f, first)
		expectError(t, "Looked once", err, api.OK)
		got, err := fringe.Looked(once, second)
		expect(t, "Looked twice", got, err, want, api.OK)
	}
}
