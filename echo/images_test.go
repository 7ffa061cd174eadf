package echo_test

import (
	"math"
	"reflect"
	"testing"

	"swath/api"
	"swath/echo"
)

// P1.7
func TestAdded(t *testing.T) {
	for _, x := range []struct {
		what string
		a, b api.RadarImage
		want api.RadarImage
		err  api.Errno
	}{
		{"two images", image(1, 2, 1, 2i), image(1, 2, 3, -2i), image(1, 2, 4, 0), api.OK},
		{"the greatest parts", image(1, 1, 2046-2046i), image(1, 1, 1-1i), image(1, 1, 2047-2047i), api.OK},
		{"a great part", image(1, 2, 1, 2047), image(1, 2, 1, 1), api.RadarImage{}, api.ErrLarge},
		{"a small part", image(1, 1, -2047i), image(1, 1, -1i), api.RadarImage{}, api.ErrLarge},
		{"other lines", image(2, 1, 1, 2), image(1, 1, 1), api.RadarImage{}, api.ErrClash},
		{"other samples", image(1, 1, 1), image(1, 2, 1, 2), api.RadarImage{}, api.ErrClash},
		{"as many samples in all", image(1, 2, 2047, 2), image(2, 1, 2047, 2), api.RadarImage{}, api.ErrClash},
	} {
		got, err := echo.Added(x.a, x.b)
		expect(t, "Added of "+x.what, got, err, x.want, x.err)
	}
}

// P1.7
func TestShifted(t *testing.T) {
	im := image(2, 3, 1, 2, 3, 4, 5, 6i)
	for _, x := range []struct {
		by   [2]int
		want []complex64
	}{
		{[2]int{0, 0}, []complex64{1, 2, 3, 4, 5, 6i}},
		{[2]int{1, 0}, []complex64{0, 0, 0, 1, 2, 3}},
		{[2]int{-1, 0}, []complex64{4, 5, 6i, 0, 0, 0}},
		{[2]int{0, 1}, []complex64{0, 1, 2, 0, 4, 5}},
		{[2]int{0, -2}, []complex64{3, 0, 0, 6i, 0, 0}},
		{[2]int{1, -1}, []complex64{0, 0, 0, 2, 3, 0}},
		{[2]int{2, 0}, make([]complex64, 6)},
		{[2]int{0, -3}, make([]complex64, 6)},
		{[2]int{64, -64}, make([]complex64, 6)},
		{[2]int{-64, 64}, make([]complex64, 6)},
	} {
		got, err := echo.Shifted(im, x.by)
		expect(t, "Shifted", got, err, image(2, 3, x.want...), api.OK)
	}
	for _, by := range [][2]int{{65, 0}, {-65, 0}, {0, 65}, {0, -65}, {math.MinInt, 0}, {0, math.MaxInt}} {
		got, err := echo.Shifted(im, by)
		expect(t, "Shifted too far", got, err, api.RadarImage{}, api.ErrRange)
	}
}

// P1.7
func TestGaps(t *testing.T) {
	zero := narrowSample(minusZero, minusZero)
	for _, x := range []struct {
		im   api.RadarImage
		want []api.Range
	}{
		{image(4, 1, 0, 1, 0, 0), []api.Range{{Lo: 0, Hi: 0}, {Lo: 2, Hi: 3}}},
		{image(3, 2, 0, 0, zero, 0, 0, zero), []api.Range{{Lo: 0, Hi: 2}}},
		{image(3, 2, 1, 0, 0, 0, 0, 1i), []api.Range{{Lo: 1, Hi: 1}}},
		{image(5, 1, 1, 0, 1, 0, 1), []api.Range{{Lo: 1, Hi: 1}, {Lo: 3, Hi: 3}}},
		{image(1, 1, 0), []api.Range{{Lo: 0, Hi: 0}}},
		{image(2, 2, 0, 1, 1i, 0), nil},
	} {
		got, err := echo.Gaps(x.im)
		if err != api.OK || len(got) != len(x.want) || len(got) > 0 && !reflect.DeepEqual(got, x.want) {
			t.Errorf("Gaps: %v, error %d, want %v", got, err, x.want)
		}
	}
}

// P1.7
func TestClipped(t *testing.T) {
	for _, x := range []struct {
		im   api.RadarImage
		want int
	}{
		{image(1, 3, 2047, -2047i, 2046), 2},
		{image(2, 2, -2047, 2047i, 2047-2047i, 2046-2046i), 3},
		{image(1, 1, 0), 0},
	} {
		got, err := echo.Clipped(x.im)
		expect(t, "Clipped", got, err, x.want, api.OK)
	}
}

// R3 and "More exactly": results have memory of their own and no -0.
func TestImagesAreNew(t *testing.T) {
	zero := narrowSample(minusZero, minusZero)
	a, b := image(1, 3, zero, 1, 2), image(1, 3, zero, -1, 3)
	first, second := copyOfImage(a), copyOfImage(b)
	sum, err := echo.Added(a, b)
	expect(t, "Added", sum, err, image(1, 3, 0, 0, 5), api.OK)
	expectNoMinusZero(t, "Added", widened(sum.Data))
	same, err := echo.Shifted(a, [2]int{0, 0})
	expect(t, "Shifted by nothing", same, err, image(1, 3, 0, 1, 2), api.OK)
	expectNoMinusZero(t, "Shifted", widened(same.Data))
	sum.Data[1], same.Data[1] = 9, 9
	expect(t, "the first image behind it", a, api.OK, first, api.OK)
	expect(t, "the second image behind it", b, api.OK, second, api.OK)
}
