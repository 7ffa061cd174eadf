package mesh_test

import (
	"math"
	"math/big"
	"slices"
	"testing"

	"swath/api"
	"swath/mesh"
)

type amplitudesFault struct {
	what       string
	amplitudes []int
	err        api.Errno
}

func amplitudesFaults() []amplitudesFault {
	return []amplitudesFault{
		{"none", nil, api.ErrShape},
		{"one", []int{5}, api.ErrShape},
		{"one that is too great", []int{3001}, api.ErrShape},
		{"61", equal(61, 5), api.ErrLarge},
		{"61 that are below 0", equal(61, -5), api.ErrLarge},
		{"one below 0", []int{5, 5, -1}, api.ErrRange},
		{"one of 3001", []int{3001, 5, 5}, api.ErrRange},
		{"0 and one below 0", []int{0, 0, -1}, api.ErrRange},
		{"a sum of 0", []int{1, -1}, api.ErrRange},
		{"the greatest of all", []int{5, math.MaxInt}, api.ErrRange},
		{"the least of all", []int{math.MinInt, 5}, api.ErrRange},
		{"all 0", []int{0, 0}, api.ErrZero},
		{"60 of 0", equal(60, 0), api.ErrZero},
	}
}

// P6.2
func TestDispersion(t *testing.T) {
	for _, x := range []struct {
		what       string
		amplitudes []int
		want       [2]int
	}{
		{"all the same", []int{10, 10, 10}, [2]int{0, 1}},
		{"the example", []int{9, 12}, [2]int{1, 49}},
		{"one of two", []int{0, 1}, [2]int{1, 1}},
		{"one of 60", append(equal(59, 0), 3000), [2]int{59, 1}},
		{"60 of the greatest", equal(60, 3000), [2]int{0, 1}},
		{"no common divisor", []int{1, 2}, [2]int{1, 9}},
		{"the greatest numbers", append(equal(59, 3000), 2999), [2]int{59, 32399640001}},
	} {
		before := slices.Clone(x.amplitudes)
		got, err := mesh.Dispersion(x.amplitudes)
		expect(t, x.what, got, err, x.want, api.OK)
		expect(t, "the amplitudes behind Dispersion", x.amplitudes, api.OK, before, api.OK)
	}
	for _, x := range amplitudesFaults() {
		got, err := mesh.Dispersion(x.amplitudes)
		expect(t, x.what, got, err, [2]int{}, x.err)
	}
}

// dispersionOf goes by the definition: the variance, divided by the square of the mean.
func dispersionOf(amplitudes []int) *big.Rat {
	count := fraction(int64(len(amplitudes)), 1)
	mean := new(big.Rat)
	for _, a := range amplitudes {
		mean.Add(mean, fraction(int64(a), 1))
	}
	mean.Quo(mean, count)
	variance := new(big.Rat)
	for _, a := range amplitudes {
		away := new(big.Rat).Sub(fraction(int64(a), 1), mean)
		variance.Add(variance, away.Mul(away, away))
	}
	variance.Quo(variance, count)
	return variance.Quo(variance, mean.Mul(mean, mean))
}

// P6.2
func TestDispersionByDefinition(t *testing.T) {
	numbers := source(4)
	for i := range 200 {
		amplitudes := numbers.numbers(numbers.from(2, 60), 0, [2]int{6, 3000}[i%2])
		amplitudes[0]++
		amplitudes[0] = min(amplitudes[0], 3000)
		want := dispersionOf(amplitudes)
		got, err := mesh.Dispersion(amplitudes)
		expect(t, "Dispersion", got, err, [2]int{int(want.Num().Int64()), int(want.Denom().Int64())}, api.OK)
	}
}

func scatterer(x, y int, amplitudes ...int) api.MeshScatterer {
	return api.MeshScatterer{Place: at(x, y), Amplitudes: amplitudes}
}

func frac(num, den int) api.Frac { return api.Frac{Num: num, Den: den} }

// P6.2
func TestChosen(t *testing.T) {
	l := []api.MeshScatterer{scatterer(0, 0, 9, 12), scatterer(1, 0, 10, 10, 10), scatterer(0, 1, 0, 1), scatterer(5, 5, append(equal(59, 3000), 2999)...)}
	for _, x := range []struct {
		l    []api.MeshScatterer
		most api.Frac
		want []int
	}{
		{l, frac(1, 49), []int{0, 1, 3}},
		{l, frac(1, 50), []int{1, 3}},
		{l, frac(1, 48), []int{0, 1, 3}},
		{l, frac(0, 1), []int{1}},
		{l, frac(1, 1), []int{0, 1, 2, 3}},
		{l, frac(1, 549146441), []int{1}},
		{l, frac(1, 549146440), []int{1, 3}},
		{l, frac(1000000000, 1), []int{0, 1, 2, 3}},
		{l, frac(1000000000, 999999999), []int{0, 1, 2, 3}},
		{l, frac(999999999, 1000000000), []int{0, 1, 3}},
		{l, frac(1, 1000000000), []int{1}},
		{l[2:3], frac(1, 2), nil},
		{nil, frac(1, 2), nil},
	} {
		got, err := mesh.Chosen(x.l, x.most)
		expect(t, "Chosen", got, err, x.want, api.OK)
	}
	expect(t, "the amplitudes behind Chosen", l[0], api.OK, scatterer(0, 0, 9, 12), api.OK)
}

// P6.2
func TestErrorsOfChosen(t *testing.T) {
	good := scatterer(0, 0, 9, 12)
	many := slices.Repeat([]api.MeshScatterer{scatterer(20000, 0)}, 41)
	var forty []api.MeshScatterer
	for i := range 40 {
		forty = append(forty, scatterer(i, 0, 5, i))
	}
	got, err := mesh.Chosen(forty, frac(0, 1))
	expect(t, "40 scatterers", got, err, []int{5}, api.OK)
	for _, x := range []struct {
		what string
		l    []api.MeshScatterer
		err  api.Errno
	}{
		{"41 scatterers", many, api.ErrLarge},
		{"40 wrong scatterers", many[:40], api.ErrRange},
		{"X of 10001", []api.MeshScatterer{good, scatterer(10001, 0)}, api.ErrRange},
		{"Y of -10001", []api.MeshScatterer{good, scatterer(0, -10001)}, api.ErrRange},
		{"the same place", []api.MeshScatterer{good, scatterer(0, 0)}, api.ErrExists},
		{"the place of the first one", []api.MeshScatterer{good, scatterer(0, 1, 9, 12), good}, api.ErrExists},
		{"wrong amplitudes ahead of a wrong place", []api.MeshScatterer{good, scatterer(1, 1, 0, 0), good}, api.ErrZero},
		{"a wrong place ahead of wrong amplitudes", []api.MeshScatterer{good, good, scatterer(1, 1, 0, 0)}, api.ErrExists},
	} {
		got, err := mesh.Chosen(x.l, frac(2, 4))
		expect(t, x.what, got, err, nil, x.err)
	}
	for _, x := range amplitudesFaults() {
		got, err := mesh.Chosen([]api.MeshScatterer{good, scatterer(1, 1, x.amplitudes...)}, frac(1, 2))
		expect(t, "Chosen: "+x.what, got, err, nil, x.err)
	}
	for _, x := range []struct {
		most api.Frac
		err  api.Errno
	}{
		{frac(2, 4), api.ErrForm},
		{frac(-2, 4), api.ErrForm},
		{frac(0, 2), api.ErrForm},
		{frac(1, 0), api.ErrForm},
		{frac(0, 0), api.ErrForm},
		{frac(1, -1), api.ErrForm},
		{frac(-1, -2), api.ErrForm},
		{frac(math.MinInt, 2), api.ErrForm},
		{frac(1, math.MinInt), api.ErrForm},
		{frac(math.MinInt, math.MinInt), api.ErrForm},
		{frac(2000000002, 2), api.ErrForm},
		{frac(math.MaxInt, math.MaxInt), api.ErrForm},
		{frac(-1, 2), api.ErrRange},
		{frac(math.MinInt, 3), api.ErrRange},
		{frac(1000000001, 1), api.ErrRange},
		{frac(1, 1000000001), api.ErrRange},
		{frac(1, math.MaxInt), api.ErrRange},
		{frac(math.MaxInt, 2), api.ErrRange},
	} {
		for _, l := range [][]api.MeshScatterer{nil, {good}} {
			got, err := mesh.Chosen(l, x.most)
			expect(t, "a wrong fraction", got, err, nil, x.err)
		}
	}
}

// P6.2
func TestChosenByDefinition(t *testing.T) {
	numbers := source(5)
	for range 100 {
		var l []api.MeshScatterer
		for i := range 40 {
			l = append(l, scatterer(i, 0, numbers.numbers(numbers.from(2, 4), 1, 5)...))
		}
		most := frac(numbers.from(0, 20), 1)
		for most.Den = numbers.from(1, 100); new(big.Int).GCD(nil, nil, big.NewInt(int64(most.Num)), big.NewInt(int64(most.Den))).Int64() != 1; {
			most.Den = numbers.from(1, 100)
		}
		var want []int
		for i, s := range l {
			if dispersionOf(s.Amplitudes).Cmp(fraction(int64(most.Num), int64(most.Den))) <= 0 {
				want = append(want, i)
			}
		}
		got, err := mesh.Chosen(l, most)
		expect(t, "Chosen by its definition", got, err, want, api.OK)
	}
}
