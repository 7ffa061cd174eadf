package series_test

import (
	"strings"
	"testing"

	"swath/api"
	"swath/series"
)

const exampleText = "series p\nepoch 0 0 0 0\nepoch 10 10 30 0\nepoch 20 0 40 0\n"

// P8.7
func TestPrint(t *testing.T) {
	for _, x := range []struct {
		s    api.SeriesPoint
		want string
	}{
		{firstExample(), exampleText},
		{named("Ab-1", epoch(100000, -100, -16000, 2048)), "series Ab-1\nepoch 100000 -100 -16000 2048\n"},
		{named("series", epoch(0, 0, 0, 0), epoch(400, 100, 16000, 7)), "series series\nepoch 0 0 0 0\nepoch 400 100 16000 7\n"},
	} {
		before := copyOf(x.s)
		got, err := series.Print(x.s)
		expect(t, "Print", got, err, x.want, api.OK)
		expect(t, "the series behind Print", x.s, api.OK, before, api.OK)
	}
}

// P8.7
func TestParse(t *testing.T) {
	for _, x := range []struct {
		t    string
		want api.SeriesPoint
	}{
		{exampleText, firstExample()},
		{"series Ab-1\nepoch 100000 -100 -16000 2048\n", named("Ab-1", epoch(100000, -100, -16000, 2048))},
		{"series epoch\nepoch 0 0 0 0\n", named("epoch", epoch(0, 0, 0, 0))},
	} {
		s, line, err := series.Parse(x.t)
		expect(t, "Parse of "+x.t, s, err, x.want, api.OK)
		expect(t, "the line of "+x.t, line, err, 0, api.OK)
	}
	for _, x := range []struct {
		t    string
		line int
		err  api.Errno
	}{
		{"", 1, api.ErrSyntax},
		{"\n", 1, api.ErrSyntax},
		{"x", 1, api.ErrSyntax},
		{"series p", 1, api.ErrSyntax},
		{"series", 1, api.ErrSyntax},
		{"series\n", 1, api.ErrSyntax},
		{"series\nepoch 0 0 0 0\n", 1, api.ErrSyntax},
		{"series p \nepoch 0 0 0 0\n", 1, api.ErrSyntax},
		{"series  p\nepoch 0 0 0 0\n", 1, api.ErrSyntax},
		{" series p\nepoch 0 0 0 0\n", 1, api.ErrSyntax},
		{"series p q\nepoch 0 0 0 0\n", 1, api.ErrSyntax},
		{"Series p\nepoch 0 0 0 0\n", 1, api.ErrSyntax},
		{"seriesp\nepoch 0 0 0 0\n", 1, api.ErrSyntax},
		{" p\nepoch 0 0 0 0\n", 1, api.ErrSyntax},
		{"p\nepoch 0 0 0 0\n", 1, api.ErrSyntax},
		{"series\tp\nepoch 0 0 0 0\n", 1, api.ErrSyntax},
		{"epoch 0 0 0 0\n", 1, api.ErrSyntax},
		{"epoch 0 0 0 0\nseries p\n", 1, api.ErrSyntax},
		{"\n" + exampleText, 1, api.ErrSyntax},
		{exampleText + "\n", 5, api.ErrSyntax},
		{exampleText + " ", 5, api.ErrSyntax},
		{exampleText + "series p\n", 5, api.ErrSyntax},
		{exampleText + "epoch 30 0 0 0", 5, api.ErrSyntax},
		{strings.TrimSuffix(exampleText, "\n"), 4, api.ErrSyntax},
		{"series p\nseries p\nepoch 0 0 0 0\n", 2, api.ErrSyntax},
		{"series 7\nepoch 0 0 0 0\nx\nepoch\n", 3, api.ErrSyntax},
		{"series p\n\nepoch 0 0 0 0\n", 2, api.ErrSyntax},
		{"series p\nepoch\n", 2, api.ErrSyntax},
		{"series p\nepoch 0 0 0\n", 2, api.ErrSyntax},
		{"series p\nepoch 0 0 0 0 0\n", 2, api.ErrSyntax},
		{"series p\nepoch 0 0 0 0 \n", 2, api.ErrSyntax},
		{"series p\nepoch  0 0 0 0\n", 2, api.ErrSyntax},
		{"series p\nepoch 0  0 0 0\n", 2, api.ErrSyntax},
		{"series p\n epoch 0 0 0 0\n", 2, api.ErrSyntax},
		{"series p\nepoch 0\t0 0 0\n", 2, api.ErrSyntax},
		{"series p\nepoch 0 0 0 0\r\n", 2, api.ErrSyntax},
		{"series p\nEpoch 0 0 0 0\n", 2, api.ErrSyntax},
		{"series p\nepochs 0 0 0 0\n", 2, api.ErrSyntax},
		{"series p\n 0 0 0 0\n", 2, api.ErrSyntax},
		{"series p\n0 0 0 0\n", 2, api.ErrSyntax},
		{"series p\nepoch 0 0 0 10000000\n", 2, api.ErrSyntax},
		{"series p\nepoch 0 -10000000 0 0\n", 2, api.ErrSyntax},
		{"series p\nepoch 99999999999999999999 0 0 0\n", 2, api.ErrSyntax},
		{"series p\n", 0, api.ErrShape},
		{"series \n", 0, api.ErrName},
		{"series 7\n", 0, api.ErrName},
		{"series p\r\nepoch 0 0 0 0\n", 0, api.ErrName},
		{"series \tp\nepoch 0 0 0 0\n", 0, api.ErrName},
		{"series \xff\x00\nepoch 0 0 0 0\n", 0, api.ErrName},
		{"series abcdefghijklm\nepoch 0 0 0 0\n", 0, api.ErrName},
		{"series p\nepoch 9999999 0 0 0\n", 0, api.ErrRange},
		{"series p\nepoch 0 -9999999 0 0\n", 0, api.ErrRange},
		{"series p\nepoch -1 0 0 0\n", 0, api.ErrRange},
		{"series p\nepoch 0 0 0 2049\n", 0, api.ErrRange},
		{"series p\nepoch 5 0 0 0\nepoch 5 0 0 0\n", 0, api.ErrOrder},
		{"series p\nepoch 0 0 0 0\nepoch 401 0 0 0\n", 0, api.ErrLarge},
	} {
		s, line, err := series.Parse(x.t)
		expect(t, "Parse of "+x.t, s, err, api.SeriesPoint{}, x.err)
		expect(t, "the line of "+x.t, line, err, x.line, x.err)
	}
}

// P8.7
func TestNumbersOfTexts(t *testing.T) {
	for _, word := range []string{"", "00", "01", "+1", "-0", "-", "+", "--1", "-01", "1.", "1e1", "0x1", "1_0", "a", "\u0661", "1,", "*"} {
		for number := range 4 {
			words := []string{"epoch", "1", "0", "0", "0"}
			words[number+1] = word
			s, line, err := series.Parse("series p\nepoch 0 0 0 0\n" + strings.Join(words, " ") + "\n")
			expect(t, "Parse of "+word, s, err, api.SeriesPoint{}, api.ErrSyntax)
			expect(t, "the line of "+word, line, err, 3, api.ErrSyntax)
		}
	}
}

// P8.7
func TestGreatTexts(t *testing.T) {
	for _, x := range []struct {
		what string
		t    string
		line int
		err  api.Errno
	}{
		{"60000 bytes", "series " + strings.Repeat("a", 59978) + "\nepoch 0 0 0 0\n", 0, api.ErrName},
		{"60001 bytes", "series " + strings.Repeat("a", 59979) + "\nepoch 0 0 0 0\n", 0, api.ErrLarge},
		{"60000 letters", strings.Repeat("x", 60000), 1, api.ErrSyntax},
		{"60001 letters", strings.Repeat("x", 60001), 0, api.ErrLarge},
		{"60000 line feeds", strings.Repeat("\n", 60000), 1, api.ErrSyntax},
		{"21 dates", "series p\n" + strings.Repeat("epoch 0 0 0 0\n", 21), 0, api.ErrLarge},
		{"20 dates", "series p\n" + strings.Repeat("epoch 0 0 0 0\n", 20), 0, api.ErrOrder},
		{"a line behind many dates", "series p\n" + strings.Repeat("epoch 0 0 0 0\n", 1000) + "x\n", 1002, api.ErrSyntax},
	} {
		s, line, err := series.Parse(x.t)
		expect(t, x.what, s, err, api.SeriesPoint{}, x.err)
		expect(t, "the line of "+x.what, line, err, x.line, x.err)
	}
}

// P8.12
func TestParseUndoesPrint(t *testing.T) {
	for _, s := range append(rightSeries(), randomSeries(14)...) {
		text, err := series.Print(s)
		expectError(t, "Print", err, api.OK)
		got, line, err := series.Parse(text)
		expect(t, "Parse of Print", got, err, s, api.OK)
		expect(t, "the line of Parse of Print", line, err, 0, api.OK)
	}
}
