package echo_test

import (
	"strings"
	"testing"

	"swath/api"
	"swath/echo"
)

// P1.8
func TestPrint(t *testing.T) {
	for _, x := range []struct {
		im   api.RadarImage
		want string
	}{
		{image(1, 2, 1, 2i), "image 1 2 44223\n1 0 0 2\n"},
		{image(2, 1, narrowSample(minusZero, -2047), 2047+10i), "image 2 1 10839\n0 -2047\n2047 10\n"},
	} {
		got, err := echo.Print(x.im)
		expect(t, "Print", got, err, x.want, api.OK)
	}
}

// P1.8
func TestParse(t *testing.T) {
	im, line, err := echo.Parse("image 1 2 44223\n1 0 0 2\n")
	expect(t, "Parse", im, err, image(1, 2, 1, 2i), api.OK)
	expect(t, "the line beside it", line, err, 0, api.OK)
	for _, x := range []struct {
		text string
		line int
		err  api.Errno
	}{
		{"", 1, api.ErrSyntax},
		{"\n", 1, api.ErrSyntax},
		{"image 1 2 44223", 1, api.ErrSyntax},
		{"image 1 2\n1 0 0 2\n", 1, api.ErrSyntax},
		{"image 1 2 3 4\n1 0 0 2\n", 1, api.ErrSyntax},
		{"Image 1 2 44223\n1 0 0 2\n", 1, api.ErrSyntax},
		{"1 2 44223 1\n1 0 0 2\n", 1, api.ErrSyntax},
		{" image 1 2 44223\n1 0 0 2\n", 1, api.ErrSyntax},
		{"image  1 2 44223\n1 0 0 2\n", 1, api.ErrSyntax},
		{"image 1 2 44223 \n1 0 0 2\n", 1, api.ErrSyntax},
		{"image 1 2 44223\r\n1 0 0 2\n", 1, api.ErrSyntax},
		{"image 01 2 44223\n1 0 0 2\n", 1, api.ErrSyntax},
		{"image +1 2 44223\n1 0 0 2\n", 1, api.ErrSyntax},
		{"image 1 2 10000000\n1 0 0 2\n", 1, api.ErrSyntax},
		{"image 1 2 44223\n1 0 0 2", 2, api.ErrSyntax},
		{"image 1 2 44223\n1 0 -0 2\n", 2, api.ErrSyntax},
		{"image 1 2 44223\n1 0 - 2\n", 2, api.ErrSyntax},
		{"image 1 2 44223\n1 0 --1 2\n", 2, api.ErrSyntax},
		{"image 1 2 44223\n1 0 -01 2\n", 2, api.ErrSyntax},
		{"image 1 2 44223\n1 0 00 2\n", 2, api.ErrSyntax},
		{"image 1 2 44223\n1 0 0.5 2\n", 2, api.ErrSyntax},
		{"image 1 2 44223\n1 0  0 2\n", 2, api.ErrSyntax},
		{"image 1 2 44223\n1 0\t0 2\n", 2, api.ErrSyntax},
		{"image 1 2 44223\n1 0 12345678 2\n", 2, api.ErrSyntax},
		{"image 1 2 44223\n1 0 -12345678 2\n", 2, api.ErrSyntax},
		{"image 1 2 44223\n1 0 \xc2\xb2 2\n", 2, api.ErrSyntax},
		{"image 1 2 44223\n\n1 0 0 2\n", 2, api.ErrSyntax},
		{"image 1 2 44223\n1 0 0 2\n\n", 3, api.ErrSyntax},
		{"image 1 2 44223\n1 0 0 2\nx", 3, api.ErrSyntax},
		{"image 9 9 9\n1\n2\nimage 1 2 3\n", 4, api.ErrSyntax},
		{"image 1 2 44223\n", 0, api.ErrShape},
		{"image 1 2 44223\n1 0 0\n", 0, api.ErrShape},
		{"image 1 2 44223\n1 0 0 2 0\n", 0, api.ErrShape},
		{"image 1 2 44223\n1 0 0 2\n1 0 0 2\n", 0, api.ErrShape},
		{"image 2 2 44223\n1 0 0 2\n1 0\n", 0, api.ErrShape},
		{"image -1 2 44223\n1 0 0 2\n", 0, api.ErrShape},
		{"image 1 -2 44223\n1 0 0 2\n", 0, api.ErrShape},
		{"image 9999999 9999999 44223\n1 0 0 2\n", 0, api.ErrShape},
		{"image 1 1 9999999\n4000 0 0\n", 0, api.ErrShape},
		{"image 0 2 0\n", 0, api.ErrRange},
		{"image 65 1 0\n" + strings.Repeat("0 0\n", 65), 0, api.ErrRange},
		{"image 1 65 0\n0" + strings.Repeat(" 0", 129) + "\n", 0, api.ErrRange},
		{"image 1 1 0\n2048 0\n", 0, api.ErrRange},
		{"image 2 1 0\n0 0\n0 -9999999\n", 0, api.ErrRange},
		{"image 1 2 44224\n1 0 0 2\n", 0, api.ErrSum},
		{"image 1 2 -21298\n1 0 0 2\n", 0, api.ErrSum},
		{"image 1 2 109744\n1 0 0 2\n", 0, api.ErrSum},
		{"image 1 2 44223\n1 0 2 0\n", 0, api.ErrSum},
		{"image 2 1 44223\n1 0\n0 3\n", 0, api.ErrSum},
	} {
		im, line, err := echo.Parse(x.text)
		expect(t, "Parse of "+x.text, line, err, x.line, x.err)
		if !isZeroImage(im) {
			t.Errorf("Parse of %s: an image beside an error", x.text)
		}
	}
}

// P1.8: a text that is too long is not looked at.
func TestParseOfLongTexts(t *testing.T) {
	_, line, err := echo.Parse(strings.Repeat("x", 60001))
	expect(t, "60001 bytes", line, err, 0, api.ErrLarge)
	_, line, err = echo.Parse(strings.Repeat("x", 60000))
	expect(t, "60000 bytes", line, err, 1, api.ErrSyntax)
	_, line, err = echo.Parse("image 1 1 1\n" + strings.Repeat("\n", 1000))
	expect(t, "empty lines", line, err, 2, api.ErrSyntax)
}

// P1.12
func TestParseUndoesPrint(t *testing.T) {
	numbers := source(12)
	for _, sizes := range [][3]int{{1, 1, 3}, {64, 64, 2047}, {3, 7, 2047}, {64, 1, 100}, {1, 64, 0}} {
		im := numbers.image(sizes[0], sizes[1], sizes[2])
		text, err := echo.Print(im)
		expect(t, "Print", text != "" && len(text) <= api.MaxText, err, true, api.OK)
		back, line, err := echo.Parse(text)
		expect(t, "Parse of Print", back, err, im, api.OK)
		expect(t, "the line beside it", line, err, 0, api.OK)
		again, _ := echo.Print(back)
		expect(t, "Print of Parse", again, api.OK, text, api.OK)
	}
}
