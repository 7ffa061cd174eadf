package echo_test

import (
	"testing"

	"swath/api"
	"swath/echo"
)

// P1.2
func TestCompress(t *testing.T) {
	for _, x := range []struct {
		what string
		im   api.RadarImage
		code []complex64
		want api.RadarField
		err  api.Errno
	}{
		{"the first example", image(1, 4, 1, 2, 3, 4), []complex64{1, 1i}, field(1, 3, 1-2i, 2-3i, 3-4i), api.OK},
		{"the second example", image(1, 5, 0, 1, 1, -1, 0), []complex64{1, 1, -1}, field(1, 3, 0, 3, 0), api.OK},
		{"two lines", image(2, 3, 1, 2, 3, 1i, 2i, 3i), []complex64{1, 2}, field(2, 2, 5, 8, 5i, 8i), api.OK},
		{"a code of one", image(2, 1, 1, 2i), []complex64{1i}, field(2, 1, -1i, 2), api.OK},
		{"a code as long as a line", image(2, 2, 1+1i, 2, 3, 4i), []complex64{1 - 1i, 2}, field(2, 1, 4+2i, 3+11i), api.OK},
		{"a code that is too long", image(2, 1, 1, 2), []complex64{1, 1}, api.RadarField{}, api.ErrShape},
	} {
		f, err := echo.Compress(x.im, x.code)
		expect(t, x.what, f, err, x.want, x.err)
	}
}

// P1.2: against the definition, up to the greatest sums.
func TestCompressByDefinition(t *testing.T) {
	numbers := source(1)
	for _, sizes := range [][3]int{{1, 64, 32}, {64, 64, 1}, {5, 33, 32}, {7, 9, 4}} {
		im := numbers.image(sizes[0], sizes[1], api.MaxSample)
		code := numbers.code(sizes[2])
		got, err := echo.Compress(im, code)
		want := field(im.Lines, im.Samples-len(code)+1)
		for l := range im.Lines {
			for s := range want.Samples {
				x, y := 0, 0
				for k, c := range code {
					z := im.Data[l*im.Samples+s+k]
					a, b, p, q := int(real(z)), int(imag(z)), int(real(c)), int(imag(c))
					x, y = x+a*p+b*q, y+b*p-a*q
				}
				want.Data = append(want.Data, complex(float64(x), float64(y)))
			}
		}
		expect(t, "Compress", got, err, want, api.OK)
	}
}

// P1.2
func TestFocus(t *testing.T) {
	for _, x := range []struct {
		what string
		f    api.RadarField
		code []complex64
		want api.RadarField
		err  api.Errno
	}{
		{"two lines", field(2, 2, 1, 2, 1i, 2i), []complex64{1, 1i}, field(1, 2, 2, 4), api.OK},
		{"three lines", field(3, 2, 1, 2, 3, 4, 5, 6), []complex64{1, -1i}, field(2, 2, 1+3i, 2+4i, 3+5i, 4+6i), api.OK},
		{"a code of one", field(1, 2, 1, 2i), []complex64{2i}, field(1, 2, -2i, 4), api.OK},
		{"a code that is too long", field(1, 2, 1, 2), []complex64{1, 1}, api.RadarField{}, api.ErrShape},
		{"the greatest part", field(2, 1, 5e8, 5e8), []complex64{1, 1}, field(1, 1, 1e9), api.OK},
		{"the least part", field(2, 1, -5e8i, -5e8i), []complex64{1, 1}, field(1, 1, -1e9i), api.OK},
		{"great parts that cancel", field(2, 1, 1e9, 1e9), []complex64{3, -3}, field(1, 1, 0), api.OK},
		{"a part that is too great", field(2, 1, 5e8, 5e8+1), []complex64{1, 1}, api.RadarField{}, api.ErrLarge},
		{"a part that is too small", field(2, 1, -5e8i, -5e8i-1i), []complex64{1, 1}, api.RadarField{}, api.ErrLarge},
		{"only the last part is too great", field(1, 2, 0, 4e8i), []complex64{3}, api.RadarField{}, api.ErrLarge},
		{"too long before too great", field(1, 1, 1e9), []complex64{3, 3}, api.RadarField{}, api.ErrShape},
	} {
		f, err := echo.Focus(x.f, x.code)
		expect(t, x.what, f, err, x.want, x.err)
	}
}

// P1.2: focusing across lines is compressing the field that is turned on its side.
func TestFocusIsCompressAcross(t *testing.T) {
	numbers := source(2)
	im := numbers.image(40, 7, api.MaxSample)
	code := numbers.code(32)
	across, upright := image(7, 40, make([]complex64, 280)...), field(40, 7)
	for i, z := range im.Data {
		across.Data[i%7*40+i/7] = z
		upright.Data = append(upright.Data, complex128(z))
	}
	want, _ := echo.Compress(across, code)
	got, err := echo.Focus(upright, code)
	if err != api.OK || got.Lines != 9 || got.Samples != 7 || len(got.Data) != 63 {
		t.Fatalf("Focus: %d lines of %d samples, error %d", got.Lines, got.Samples, err)
	}
	for i, z := range got.Data {
		if z != want.Data[i%7*9+i/7] {
			t.Errorf("sample %d: %v, want %v", i, z, want.Data[i%7*9+i/7])
		}
	}
}

// R3 and "More exactly": arguments stay as they are, results have memory of their own and no -0.
func TestFieldsAreNew(t *testing.T) {
	numbers := source(3)
	im, code := numbers.image(3, 5, 9), []complex64{narrowSample(minusZero, -1), 1}
	im.Data[0], im.Data[1] = narrowSample(minusZero, minusZero), narrowSample(minusZero, minusZero)
	before := copyOfImage(im)
	f, err := echo.Compress(im, code)
	expect(t, "the image behind Compress", im, err, before, api.OK)
	expectNoMinusZero(t, "Compress", f.Data)
	again, _ := echo.Compress(im, code)
	im.Data[2] += 1
	expect(t, "the field when the image changes", f, api.OK, again, api.OK)

	zeros := field(2, 1, complex(minusZero, minusZero), complex(minusZero, minusZero))
	g, err := echo.Focus(zeros, []complex64{narrowSample(1, minusZero)})
	expect(t, "Focus of zeros", g, err, field(2, 1, 0, 0), api.OK)
	expectNoMinusZero(t, "Focus", g.Data)
	g.Data[0] = 7
	if zeros.Data[0] != 0 {
		t.Errorf("Focus shares memory with its argument")
	}
}

// P1.9
func TestCompressIsLinear(t *testing.T) {
	numbers := source(4)
	a, b := numbers.image(6, 20, 1000), numbers.image(6, 20, 1000)
	code := numbers.code(7)
	sum, err := echo.Added(a, b)
	expect(t, "Added", sum.Lines, err, 6, api.OK)
	of, _ := echo.Compress(sum, code)
	first, _ := echo.Compress(a, code)
	second, _ := echo.Compress(b, code)
	if len(of.Data) != 6*14 {
		t.Fatalf("Compress: %d samples", len(of.Data))
	}
	for i, z := range of.Data {
		if z != first.Data[i]+second.Data[i] {
			t.Errorf("sample %d: %v is not %v and %v", i, z, first.Data[i], second.Data[i])
		}
	}
}

// P1.9: the margin of zeros is what the shift pushes out.
func TestCompressOfShifted(t *testing.T) {
	numbers := source(5)
	im := numbers.image(8, 24, 2047)
	for i := range im.Data {
		if i/24 < 2 || i/24 > 5 || i%24 < 5 || i%24 > 18 {
			im.Data[i] = 0
		}
	}
	code := numbers.code(5)
	plain, _ := echo.Compress(im, code)
	for _, by := range [][2]int{{0, 0}, {2, 5}, {-2, -5}, {1, -3}, {0, 4}} {
		moved, err := echo.Shifted(im, by)
		expect(t, "Shifted", moved.Samples, err, 24, api.OK)
		got, _ := echo.Compress(moved, code)
		for i, z := range got.Data {
			l, s := i/20-by[0], i%20-by[1]
			if l >= 0 && l < 8 && s >= 0 && s < 20 && z != plain.Data[l*20+s] {
				t.Errorf("shifted by %v, sample %d: %v, want %v", by, i, z, plain.Data[l*20+s])
			}
		}
	}
}
