package fringe_test

import (
	"math"
	"slices"
	"testing"

	"swath/api"
	"swath/echo"
	"swath/fringe"
)

// P4.2
func TestInterfere(t *testing.T) {
	for _, x := range []struct {
		what string
		a, b api.RadarImage
		want api.RadarField
	}{
		{"the example", image(1, 2, 1, 1i), image(1, 2, 1, 1), field(1, 2, 1, 1i)},
		{"the conjugate of the second one", image(2, 1, 1, 1), image(2, 1, 1i, 2+3i), field(2, 1, -1i, 2-3i)},
		{"products", image(1, 1, 2+3i), image(1, 1, 5-7i), field(1, 1, -11+29i)},
		{"the greatest samples", image(1, 2, 2047+2047i, -2047+2047i), image(1, 2, 2047+2047i, 2047+2047i), field(1, 2, 8380418, 8380418i)},
		{"nothing", image(1, 1, 0), image(1, 1, 5+5i), field(1, 1, 0)},
	} {
		got, err := fringe.Interfere(x.a, x.b)
		expect(t, x.what, got, err, x.want, api.OK)
	}
	numbers := source(1)
	for range 20 {
		lines, samples := numbers.from(1, 9), numbers.from(1, 9)
		a, b := numbers.image(lines, samples, api.MaxSample), numbers.image(lines, samples, api.MaxSample)
		got, err := fringe.Interfere(a, b)
		expect(t, "the definition", got, err, fieldOfParts(lines, samples, products(a, b)), api.OK)
	}
}

// signedZeros are samples whose parts are 1, -1, 0 and -0.
func signedZeros() []complex64 {
	parts := []float32{1, -1, 0, float32(minusZero)}
	var l []complex64
	for _, x := range parts {
		for _, y := range parts {
			l = append(l, complex(x, y))
		}
	}
	return l
}

// P4.2, R3: what is given is new, and has no -0.
func TestInterferogramIsNew(t *testing.T) {
	all := signedZeros()
	a, b := image(16, 16), image(16, 16)
	for _, x := range all {
		for _, y := range all {
			a.Data, b.Data = append(a.Data, x), append(b.Data, y)
		}
	}
	first, second := copyOfImage(a), copyOfImage(b)
	got, err := fringe.Interfere(a, b)
	expect(t, "Interfere", got, err, fieldOfParts(16, 16, products(a, b)), api.OK)
	expectNoMinusZero(t, "Interfere", got.Data)
	expect(t, "the first image behind it", a, api.OK, first, api.OK)
	expect(t, "the second image behind it", b, api.OK, second, api.OK)
}

// P4.2
func TestLooked(t *testing.T) {
	counted := field(3, 5, 1, 2, 3, 4, 5, 1i, 2i, 3i, 4i, 5i, 100, 200, 300, 400, 500)
	for _, x := range []struct {
		what string
		f    api.RadarField
		by   [2]int
		want api.RadarField
		err  api.Errno
	}{
		{"the example", field(1, 2, 1, 1i), [2]int{1, 2}, field(1, 1, 1+1i), api.OK},
		{"single looks", counted, [2]int{1, 1}, counted, api.OK},
		{"two samples", counted, [2]int{1, 2}, field(3, 2, 3, 7, 3i, 7i, 300, 700), api.OK},
		{"two lines", counted, [2]int{2, 1}, field(1, 5, 1+1i, 2+2i, 3+3i, 4+4i, 5+5i), api.OK},
		{"two lines of three samples", counted, [2]int{2, 3}, field(1, 1, 6+6i), api.OK},
		{"all lines", counted, [2]int{3, 4}, field(1, 1, 1010+10i), api.OK},
		{"all of it", counted, [2]int{3, 5}, field(1, 1, 1515+15i), api.OK},
		{"no lines", counted, [2]int{0, 1}, api.RadarField{}, api.ErrRange},
		{"lines below 0", counted, [2]int{-1, 1}, api.RadarField{}, api.ErrRange},
		{"too many lines", counted, [2]int{4, 1}, api.RadarField{}, api.ErrRange},
		{"no samples", counted, [2]int{1, 0}, api.RadarField{}, api.ErrRange},
		{"too many samples", counted, [2]int{1, 6}, api.RadarField{}, api.ErrRange},
		{"beyond all", counted, [2]int{math.MaxInt, math.MinInt}, api.RadarField{}, api.ErrRange},
		{"just 10^9", field(1, 2, 999999999, 1), [2]int{1, 2}, field(1, 1, 1e9), api.OK},
		{"10^9 and 1", field(1, 2, 1e9, 1), [2]int{1, 2}, api.RadarField{}, api.ErrLarge},
		{"less than -10^9", field(1, 2, -1e9, -1), [2]int{1, 2}, api.RadarField{}, api.ErrLarge},
		{"10^9 i and i", field(2, 1, 1e9i, 1i), [2]int{2, 1}, api.RadarField{}, api.ErrLarge},
		{"less than -10^9 i", field(2, 1, -1i, -1e9i), [2]int{2, 1}, api.RadarField{}, api.ErrLarge},
		{"just -10^9 i", field(2, 1, -1i, -999999999i), [2]int{2, 1}, field(1, 1, -1e9i), api.OK},
		{"a great block behind a small one", field(2, 2, 1, 1, 1e9, 1e9), [2]int{1, 2}, api.RadarField{}, api.ErrLarge},
		{"great numbers that are left out", field(1, 3, 1, 1, 1e9), [2]int{1, 2}, field(1, 1, 2), api.OK},
		{"great numbers that cancel out", field(1, 3, 1e9, 1e9, -1e9), [2]int{1, 3}, field(1, 1, 1e9), api.OK},
	} {
		got, err := fringe.Looked(x.f, x.by)
		expect(t, x.what, got, err, x.want, x.err)
	}
}

// P4.2
func TestLookedByDefinition(t *testing.T) {
	numbers := source(2)
	for range 30 {
		f := numbers.field(numbers.from(1, 12), numbers.from(1, 12), 1000)
		by := [2]int{numbers.from(1, f.Lines), numbers.from(1, f.Samples)}
		want := field(f.Lines/by[0], f.Samples/by[1])
		want.Data = make([]complex128, want.Lines*want.Samples)
		for i, z := range f.Data {
			line, sample := i/f.Samples/by[0], i%f.Samples/by[1]
			if line < want.Lines && sample < want.Samples {
				want.Data[line*want.Samples+sample] += z
			}
		}
		got, err := fringe.Looked(f, by)
		expect(t, "Looked", got, err, want, api.OK)
	}
}

// P4.2
func TestFiltered(t *testing.T) {
	ones := field(3, 4, slices.Repeat([]complex128{1 - 2i}, 12)...)
	for _, x := range []struct {
		what string
		f    api.RadarField
		half int
		want api.RadarField
		err  api.Errno
	}{
		{"a window of one number", field(1, 3, 1, 2i, -3), 0, field(1, 3, 1, 2i, -3), api.OK},
		{"a line", field(1, 4, 1, 2, 3, 4i), 1, field(1, 4, 3, 6, 5+4i, 3+4i), api.OK},
		{"a column", field(4, 1, 1, 2, 3, 4i), 1, field(4, 1, 3, 6, 5+4i, 3+4i), api.OK},
		{"borders", ones, 1, field(3, 4, 4-8i, 6-12i, 6-12i, 4-8i, 6-12i, 9-18i, 9-18i, 6-12i, 4-8i, 6-12i, 6-12i, 4-8i), api.OK},
		{"a window greater than the field", ones, 4, field(3, 4, slices.Repeat([]complex128{12 - 24i}, 12)...), api.OK},
		{"a window below 0", ones, -1, api.RadarField{}, api.ErrRange},
		{"a great window", ones, 5, api.RadarField{}, api.ErrRange},
		{"just 10^9", field(1, 2, 999999999, 1), 1, field(1, 2, 1e9, 1e9), api.OK},
		{"10^9 and 1", field(1, 2, 1e9, 1), 1, api.RadarField{}, api.ErrLarge},
		{"less than -10^9 i", field(2, 1, -1e9i, -1i), 1, api.RadarField{}, api.ErrLarge},
		{"great numbers apart", field(1, 3, 1e9, 0, 1e9), 0, field(1, 3, 1e9, 0, 1e9), api.OK},
		{"great numbers around one", field(1, 3, 1e9, 0, 1e9), 1, api.RadarField{}, api.ErrLarge},
	} {
		got, err := fringe.Filtered(x.f, x.half)
		expect(t, x.what, got, err, x.want, x.err)
	}
}

// P4.2
func TestFilteredByDefinition(t *testing.T) {
	numbers := source(3)
	for half := range 5 {
		for range 5 {
			lines, samples := numbers.from(1, 12), numbers.from(1, 12)
			im := numbers.image(lines, samples, 2000)
			one := image(lines, samples, slices.Repeat([]complex64{1}, lines*samples)...)
			parts := products(im, one)
			got, err := fringe.Filtered(fieldOfParts(lines, samples, parts), half)
			expect(t, "Filtered", got, err, fieldOfParts(lines, samples, windowSums(lines, samples, parts, half)), api.OK)
		}
	}
}

// P4.2, R3: what is given is new, and has no -0.
func TestFieldsAreNew(t *testing.T) {
	f := field(1, 4, complex(minusZero, 1), complex(2, minusZero), complex(minusZero, minusZero), 0)
	before := copyOfField(f)
	want := field(1, 4, 1i, 2, 0, 0)
	got, err := fringe.Looked(f, [2]int{1, 1})
	expect(t, "Looked", got, err, want, api.OK)
	expectNoMinusZero(t, "Looked", got.Data)
	got.Data[0] = 7
	got, err = fringe.Filtered(f, 0)
	expect(t, "Filtered", got, err, want, api.OK)
	expectNoMinusZero(t, "Filtered", got.Data)
	got.Data[0] = 7
	expect(t, "the field behind both", f, api.OK, before, api.OK)
	got, _ = fringe.Looked(field(1, 2, complex(minusZero, -3), complex(minusZero, 3)), [2]int{1, 2})
	expectNoMinusZero(t, "Looked", got.Data)
}

// P4.2
func TestPhasesOf(t *testing.T) {
	for _, x := range []struct {
		what string
		f    api.RadarField
		want api.PhaseMap
	}{
		{"the example", field(1, 2, 1, 1i), phases(1, 2, 0, 1024)},
		{"the example looked", field(1, 1, 1+1i), phases(1, 1, 512)},
		{"axes", field(2, 2, 5, 5i, -5, -5i), phases(2, 2, 0, 1024, -2048, -1024)},
		{"nothing", field(2, 1, 0, 3-3i), phases(2, 1, void, -512)},
		{"nothing with a sign", field(1, 2, complex(minusZero, minusZero), complex(0, minusZero)), phases(1, 2, void, void)},
		{"the second example of the document", field(1, 2, 2+1i, -2+1i), phases(1, 2, 302, 1746)},
		{"the greatest parts", field(1, 2, 1e9-1e9i, -1e9), phases(1, 2, -512, -2048)},
	} {
		got, err := fringe.PhasesOf(x.f)
		expect(t, x.what, got, err, x.want, api.OK)
	}
	numbers := source(4)
	f := numbers.field(20, 30, 3)
	before := copyOfField(f)
	want := phases(20, 30)
	for _, z := range f.Data {
		n, err := echo.PhaseOf(z)
		if err == api.ErrVoid {
			n = void
		}
		want.Phases = append(want.Phases, n)
	}
	got, err := fringe.PhasesOf(f)
	expect(t, "PhasesOf", got, err, want, api.OK)
	expect(t, "the field behind it", f, api.OK, before, api.OK)
}
