package fringe_test

import (
	"math"
	"math/big"
	"slices"
	"testing"

	"swath/api"
	"swath/fringe"
)

// P4.4
func TestCoherence(t *testing.T) {
	great := image(9, 9, slices.Repeat([]complex64{2047 - 2047i}, 81)...)
	for _, x := range []struct {
		what string
		a, b api.RadarImage
		half int
		want api.FloatMap
		err  api.Errno
	}{
		{"the example", image(1, 2, 1, 1), image(1, 2, 1, 1i), 1, floats(1, 2, 707, 707), api.OK},
		{"windows of one sample", image(1, 2, 1, 1), image(1, 2, 1, 1i), 0, floats(1, 2, 1000, 1000), api.OK},
		{"nothing in one image", image(1, 3, 0, 1, 2), image(1, 3, 1, 0, 1), 0, floats(1, 3, 0, 0, 1000), api.OK},
		{"nothing at all", image(1, 2, 0, 0), image(1, 2, 0, 0), 4, floats(1, 2, 0, 0), api.OK},
		{"opposite samples", image(1, 2, 1, 1), image(1, 2, 1, -1), 1, floats(1, 2, 0, 0), api.OK},
		{"a window that reaches the next sample alone", image(1, 4, 1, 1, 0, 0), image(1, 4, 1, 1i, 0, 0), 1, floats(1, 4, 707, 707, 1000, 0), api.OK},
		{"the greatest samples", great, great, 4, floats(9, 9, slices.Repeat([]float32{1000}, 81)...), api.OK},
		{"just 600", image(1, 2, 3, 4), image(1, 2, 1, 0), 1, floats(1, 2, 600, 600), api.OK},
		{"just 800", image(2, 1, 3, 4), image(2, 1, 0, 1i), 1, floats(2, 1, 800, 800), api.OK},
		{"a window below 0", image(1, 1, 1), image(1, 1, 1), -1, api.FloatMap{}, api.ErrRange},
		{"a great window", image(1, 1, 1), image(1, 1, 1), 5, api.FloatMap{}, api.ErrRange},
	} {
		got, err := fringe.Coherence(x.a, x.b, x.half)
		expect(t, x.what, got, err, x.want, x.err)
	}
}

// coherence is the definition: it tries all numbers from 1000 on.
func coherence(sum [2]int, p, q int) float32 {
	if p == 0 || q == 0 {
		return 0
	}
	product := new(big.Int).Mul(big.NewInt(int64(p)), big.NewInt(int64(q)))
	energy := new(big.Int).Mul(big.NewInt(1000000), big.NewInt(int64(sum[0]*sum[0]+sum[1]*sum[1])))
	for t := int64(1000); t > 0; t-- {
		if new(big.Int).Mul(big.NewInt(t*t), product).Cmp(energy) <= 0 {
			return float32(t)
		}
	}
	return 0
}

// P4.4
func TestCoherenceByDefinition(t *testing.T) {
	numbers := source(9)
	for _, size := range []int{1, 3, 100, api.MaxSample} {
		for half := range 5 {
			lines, samples := numbers.from(1, 11), numbers.from(1, 11)
			a, b := numbers.image(lines, samples, size), numbers.image(lines, samples, size)
			for i := range a.Data {
				if numbers.below(2) == 0 {
					b.Data[i] = a.Data[i]
				}
			}
			first, second := copyOfImage(a), copyOfImage(b)
			sums := windowSums(lines, samples, products(a, b), half)
			p := windowSums(lines, samples, products(a, a), half)
			q := windowSums(lines, samples, products(b, b), half)
			want := floats(lines, samples)
			for i := range sums {
				want.Data = append(want.Data, coherence(sums[i], p[i][0], q[i][0]))
			}
			got, err := fringe.Coherence(a, b, half)
			expect(t, "Coherence", got, err, want, api.OK)
			expect(t, "the first image behind it", a, api.OK, first, api.OK)
			expect(t, "the second image behind it", b, api.OK, second, api.OK)
		}
	}
}

// P4.4
func TestSquareOf(t *testing.T) {
	for _, x := range []struct{ coherence, looks, want int }{
		{707, 2, 0}, {800, 5, 550000}, {1000, 2, 1000000}, {1000, 10000, 1000000}, {1000, 7, 1000000}, {0, 2, 0}, {0, 10000, 0},
		{708, 2, 2528}, {10, 10000, 0}, {11, 10000, 21}, {500, 4, 0}, {501, 4, 1334}, {577, 3, 0}, {578, 3, 1126}, {999, 2, 996002}, {999, 4, 997334},
	} {
		got, err := fringe.SquareOf(x.coherence, x.looks)
		expect(t, "SquareOf", got, err, x.want, api.OK)
	}
	for _, x := range [][2]int{{-1, 2}, {1001, 2}, {500, 1}, {500, 0}, {500, -5}, {500, 10001}, {math.MinInt, math.MaxInt}, {math.MaxInt, math.MinInt}} {
		got, err := fringe.SquareOf(x[0], x[1])
		expect(t, "SquareOf", got, err, 0, api.ErrRange)
	}
	for _, looks := range []int{2, 3, 7, 100, 9999} {
		for c := range 1001 {
			want := int(math.Floor(float64(looks*c*c-1000000) / float64(looks-1)))
			got, err := fringe.SquareOf(c, looks)
			expect(t, "SquareOf", got, err, max(want, 0), api.OK)
		}
	}
}

// P4.4
func TestMasked(t *testing.T) {
	m, q := phases(1, 4, 5000, -7, void, 0), floats(1, 4, 300, 299, 1000, -5)
	for _, x := range []struct {
		what  string
		m     api.PhaseMap
		q     api.FloatMap
		least int
		want  api.PhaseMap
		err   api.Errno
	}{
		{"300", m, q, 300, phases(1, 4, 5000, void, void, void), api.OK},
		{"301", m, q, 301, phases(1, 4, void, void, void, void), api.OK},
		{"299", m, q, 299, phases(1, 4, 5000, -7, void, void), api.OK},
		{"-5", m, q, -5, m, api.OK},
		{"-4", m, q, -4, phases(1, 4, 5000, -7, void, void), api.OK},
		{"the least one", m, q, -100000, m, api.OK},
		{"the greatest one", phases(1, 2, 1, 2), floats(1, 2, 99999, 100000), 100000, phases(1, 2, void, 2), api.OK},
		{"-0", phases(1, 1, 1), floats(1, 1, float32(minusZero)), 0, phases(1, 1, 1), api.OK},
		{"too much", m, q, 100001, api.PhaseMap{}, api.ErrRange},
		{"too little", m, q, -100001, api.PhaseMap{}, api.ErrRange},
		{"beyond all", m, q, math.MinInt, api.PhaseMap{}, api.ErrRange},
		{"other columns", m, floats(1, 3, 1, 1, 1), 100001, api.PhaseMap{}, api.ErrClash},
		{"other rows", phases(2, 1, 1, 1), floats(1, 1, 1), 0, api.PhaseMap{}, api.ErrClash},
		{"turned sizes", phases(2, 1, 1, 1), floats(1, 2, 1, 1), 0, api.PhaseMap{}, api.ErrClash},
	} {
		got, err := fringe.Masked(x.m, x.q, x.least)
		expect(t, x.what, got, err, x.want, x.err)
	}
	for _, x := range floatFaults() {
		got, err := fringe.Masked(phases(2, 5, make([]int, 10)...), x.h, 100001)
		expect(t, "Masked by a map with "+x.what, got, err, api.PhaseMap{}, x.err)
	}
	got, err := fringe.Masked(m, q, -5)
	expectError(t, "Masked", err, api.OK)
	got.Phases[0] = 7
	expect(t, "the map behind Masked", m, api.OK, phases(1, 4, 5000, -7, void, 0), api.OK)
}
