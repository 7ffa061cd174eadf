package echo_test

import (
	"math"
	"math/big"
	"slices"
	"testing"

	"swath/api"
	"swath/echo"
)

const prime = api.EchoPrime

// P1.3
func TestTransform(t *testing.T) {
	for _, x := range []struct{ list, want []int }{
		{[]int{1, 2}, []int{3, prime - 1}},
		{[]int{1, 0, 0, 0}, []int{1, 1, 1, 1}},
		{[]int{prime - 1}, []int{prime - 1}},
		{[]int{0, 0}, []int{0, 0}},
		{[]int{prime - 1, prime - 1}, []int{prime - 2, 0}},
		// The root for 4 is 3 to the power of (prime - 1) / 4.
		{[]int{0, 1, 0, 0}, []int{1, 911660635, prime - 1, 86583718}},
	} {
		got, err := echo.Transform(x.list)
		expect(t, "Transform", got, err, x.want, api.OK)
		got, err = echo.Inverse(x.want)
		expect(t, "Inverse", got, err, x.list, api.OK)
	}
}

// P1.3: against the definition, reckoned with long numbers.
func TestTransformByDefinition(t *testing.T) {
	numbers := source(6)
	for n := 1; n <= api.MaxTransform; n *= 2 {
		list := numbers.list(n)
		list[n-1] = prime - 1
		want := make([]int, n)
		for k := range n {
			sum := new(big.Int)
			for j, a := range list {
				exponent := big.NewInt(int64((prime - 1) / n * j * k))
				term := exponent.Exp(big.NewInt(api.EchoRoot), exponent, big.NewInt(prime))
				sum.Add(sum, term.Mul(term, big.NewInt(int64(a))))
			}
			want[k] = int(sum.Mod(sum, big.NewInt(prime)).Int64())
		}
		got, err := echo.Transform(list)
		expect(t, "Transform", got, err, want, api.OK)
	}
}

// P1.3
func TestCorrelate(t *testing.T) {
	for _, x := range []struct{ a, b, want []int }{
		{[]int{1, 2}, []int{3, 4}, []int{11, 10}},
		{[]int{1, 2, 3, 4}, []int{0, 1, 0, 0}, []int{2, 3, 4, 1}},
		{[]int{prime - 1}, []int{prime - 1}, []int{1}},
		{[]int{prime - 1, prime - 1}, []int{prime - 1, prime - 1}, []int{2, 2}},
	} {
		got, err := echo.Correlate(x.a, x.b)
		expect(t, "Correlate", got, err, x.want, api.OK)
	}
	got, err := echo.Correlate(slices.Repeat([]int{prime - 1}, 128), slices.Repeat([]int{prime - 1}, 128))
	expect(t, "Correlate of the greatest lists", got, err, slices.Repeat([]int{128}, 128), api.OK)
}

// P1.3
func TestErrorsOfLists(t *testing.T) {
	for _, x := range []struct {
		list []int
		err  api.Errno
	}{
		{nil, api.ErrShape},
		{[]int{1, 2, 3}, api.ErrShape},
		{make([]int, 127), api.ErrShape},
		{make([]int, 129), api.ErrShape},
		{make([]int, 256), api.ErrShape},
		{[]int{prime, 0, 0}, api.ErrShape},
		{[]int{prime}, api.ErrRange},
		{[]int{0, -1}, api.ErrRange},
		{[]int{math.MinInt}, api.ErrRange},
		{[]int{0, 0, 0, math.MaxInt}, api.ErrRange},
	} {
		got, err := echo.Transform(x.list)
		expect(t, "Transform", got, err, nil, x.err)
		got, err = echo.Inverse(x.list)
		expect(t, "Inverse", got, err, nil, x.err)
		got, err = echo.Correlate(x.list, []int{prime, prime, prime})
		expect(t, "Correlate, first", got, err, nil, x.err)
		got, err = echo.Correlate([]int{1, 2, 3, 4, 5, 6, 7, 8}, x.list)
		expect(t, "Correlate, second", got, err, nil, x.err)
	}
	got, err := echo.Correlate([]int{prime}, []int{1, 2, 3})
	expect(t, "Correlate: the number of the first list", got, err, nil, api.ErrRange)
	got, err = echo.Correlate([]int{1}, []int{1, 2})
	expect(t, "Correlate of unlike lists", got, err, nil, api.ErrClash)
}

// P1.10
func TestInverseUndoesTransform(t *testing.T) {
	numbers := source(7)
	for n := 1; n <= api.MaxTransform; n *= 2 {
		list := numbers.list(n)
		there, err := echo.Transform(list)
		expect(t, "Transform", len(there), err, n, api.OK)
		back, err := echo.Inverse(there)
		expect(t, "Inverse of Transform", back, err, list, api.OK)
		there, _ = echo.Inverse(list)
		back, err = echo.Transform(there)
		expect(t, "Transform of Inverse", back, err, list, api.OK)
	}
}

// P1.10
func TestTransformOfCorrelation(t *testing.T) {
	numbers := source(8)
	for n := 1; n <= api.MaxTransform; n *= 2 {
		a, b := numbers.list(n), numbers.list(n)
		correlation, err := echo.Correlate(a, b)
		expect(t, "Correlate", len(correlation), err, n, api.OK)
		got, _ := echo.Transform(correlation)
		first, _ := echo.Transform(a)
		second, _ := echo.Transform(b)
		for k := range n {
			if want := first[k] * second[(n-k)%n] % prime; got[k] != want {
				t.Errorf("%d numbers, number %d: %d, want %d", n, k, got[k], want)
			}
		}
	}
}

// P1.10: small sums that Compress makes are found by transforms.
func TestCompressByTransforms(t *testing.T) {
	numbers := source(9)
	line, code := make([]int, 64), make([]int, 64)
	im, samples := image(1, 33), make([]complex64, 32)
	for i := range 33 {
		line[i] = numbers.below(2048)
		im.Data = append(im.Data, complex(float32(line[i]), 0))
	}
	for i := range 32 {
		code[i] = 1 + numbers.below(3)
		samples[i] = complex(float32(code[i]), 0)
	}
	first, _ := echo.Transform(line)
	second, _ := echo.Transform(code)
	product := make([]int, 64)
	for k := range product {
		product[k] = first[k] * second[(64-k)%64] % prime
	}
	sums, _ := echo.Inverse(product)
	f, err := echo.Compress(im, samples)
	want := field(1, 2, complex(float64(sums[0]), 0), complex(float64(sums[1]), 0))
	expect(t, "Compress", f, err, want, api.OK)
}

// R3
func TestListsAreNew(t *testing.T) {
	list, other := []int{1, 2, 3, 4}, []int{5, 6, 7, 8}
	for range 2 {
		a, _ := echo.Transform(list)
		b, _ := echo.Inverse(list)
		c, _ := echo.Correlate(list, other)
		one, _ := echo.Transform(list[:1])
		for _, result := range [][]int{a, b, c, one} {
			result[0] = -1
		}
		if !slices.Equal(list, []int{1, 2, 3, 4}) || !slices.Equal(other, []int{5, 6, 7, 8}) {
			t.Fatalf("the arguments became %v and %v", list, other)
		}
	}
}
