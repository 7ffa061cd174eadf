package match_test

import (
	"math"
	"strings"
	"testing"

	"swath/api"
	"swath/match"
)

// P3.6
func TestFormat(t *testing.T) {
	for _, x := range []struct {
		x    api.MatchPoint
		want string
	}{
		{scored(12, 3, 0, -1, 998), "12 3 0 -1 998"},
		{api.MatchPoint{}, "0 0 0 0 0"},
		{scored(-1, 64, 9, -9, 1001), "-1 64 9 -9 1001"},
		{scored(math.MinInt, math.MaxInt, 1, 2, 3), "-9223372036854775808 9223372036854775807 1 2 3"},
	} {
		expect(t, "FormatPoint", match.FormatPoint(x.x), api.OK, x.want, api.OK)
	}
	for _, x := range []struct {
		f    api.MatchAffine
		want string
	}{
		{exampleShift(), "10 0 0 1 10 1 0"},
		{affine(1, [3]int{2, -3, 4}, [3]int{-5, 6, -7}), "1 2 -3 4 -5 6 -7"},
		{api.MatchAffine{}, "0 0 0 0 0 0 0"},
		{affine(math.MinInt, [3]int{}, [3]int{0, 0, math.MaxInt}), "-9223372036854775808 0 0 0 0 0 9223372036854775807"},
	} {
		expect(t, "FormatAffine", match.FormatAffine(x.f), api.OK, x.want, api.OK)
	}
}

// P3.6
func TestParsePoint(t *testing.T) {
	for _, x := range []struct {
		s    string
		want api.MatchPoint
		err  api.Errno
	}{
		{"12 3 0 -1 998", scored(12, 3, 0, -1, 998), api.OK},
		{"0 0 0 0 0", api.MatchPoint{}, api.OK},
		{"63 63 -8 8 1000", scored(63, 63, -8, 8, 1000), api.OK},
		{"64 0 0 0 0", api.MatchPoint{}, api.ErrRange},
		{"0 -1 0 0 0", api.MatchPoint{}, api.ErrRange},
		{"0 0 9 0 0", api.MatchPoint{}, api.ErrRange},
		{"0 0 0 -9 0", api.MatchPoint{}, api.ErrRange},
		{"0 0 0 0 1001", api.MatchPoint{}, api.ErrRange},
		{"0 0 0 0 9999999999999999", api.MatchPoint{}, api.ErrRange},
		{"-9999999999999999 0 0 0 0", api.MatchPoint{}, api.ErrRange},
		{"0 0 0 0 10000000000000000", api.MatchPoint{}, api.ErrSyntax},
		{"64 0 0 0 x", api.MatchPoint{}, api.ErrSyntax},
		{"0 0 0 0", api.MatchPoint{}, api.ErrSyntax},
		{"0 0 0 0 0 0", api.MatchPoint{}, api.ErrSyntax},
	} {
		got, err := match.ParsePoint(x.s)
		expect(t, x.s, got, err, x.want, x.err)
	}
	for _, s := range wrongTexts("1 2 3 4 5") {
		got, err := match.ParsePoint(s)
		expect(t, s, got, err, api.MatchPoint{}, api.ErrSyntax)
	}
}

// wrongTexts are texts that have not the form of numbers with single blanks, made from one that has it.
func wrongTexts(s string) []string {
	texts := []string{
		"", " ", "x", " " + s, s + " ", s + "\n", "\t" + s, s + "\x00",
		strings.Replace(s, " ", "  ", 1), strings.Replace(s, " ", "\t", 1), strings.Replace(s, " ", "\n", 1),
		strings.Replace(s, " ", ",", 1), strings.Repeat(s+" ", 10000),
	}
	for _, word := range []string{"+1", "-0", "01", "-01", "00", "-", "--1", "1-", "1.0", "1e1", "0x1", "a", "", "1_0", "\u0661", "12345678901234567", "-12345678901234567"} {
		texts = append(texts, word+s[1:], s[:len(s)-1]+word)
	}
	return texts
}

// P3.6
func TestParseAffine(t *testing.T) {
	for _, x := range []struct {
		s    string
		want api.MatchAffine
		err  api.Errno
	}{
		{"10 0 0 1 10 1 0", exampleShift(), api.OK},
		{"1 2 -3 4 -5 6 -7", affine(1, [3]int{2, -3, 4}, [3]int{-5, 6, -7}), api.OK},
		{"4 2 2 2 2 2 2", affine(4, [3]int{2, 2, 2}, [3]int{2, 2, 2}), api.OK},
		{"1000000000000 1000000000000000 0 -1000000000000000 0 0 0", affine(1e12, [3]int{1e15, 0, -1e15}, [3]int{}), api.OK},
		{"0 0 0 0 0 0 0", api.MatchAffine{}, api.ErrRange},
		{"1000000000001 0 0 0 0 0 0", api.MatchAffine{}, api.ErrRange},
		{"1 1000000000000001 0 0 0 0 0", api.MatchAffine{}, api.ErrRange},
		{"1 0 0 0 0 0 -1000000000000001", api.MatchAffine{}, api.ErrRange},
		{"1 0 0 0 0 0 9999999999999999", api.MatchAffine{}, api.ErrRange},
		{"1 0 0 0 0 0 10000000000000000", api.MatchAffine{}, api.ErrSyntax},
		{"0 0 0 0 0 0 x", api.MatchAffine{}, api.ErrSyntax},
		{"1 0 0 0 0 0", api.MatchAffine{}, api.ErrSyntax},
		{"1 0 0 0 0 0 0 0", api.MatchAffine{}, api.ErrSyntax},
		{"12 3 0 -1 998", api.MatchAffine{}, api.ErrSyntax},
	} {
		got, err := match.ParseAffine(x.s)
		expect(t, x.s, got, err, x.want, x.err)
	}
	for _, s := range wrongTexts("1 2 3 4 5 6 7") {
		got, err := match.ParseAffine(s)
		expect(t, s, got, err, api.MatchAffine{}, api.ErrSyntax)
	}
}

// P3.10
func TestParseUndoesTexts(t *testing.T) {
	numbers := source(13)
	for _, x := range numbers.points(200, 64, 8) {
		got, err := match.ParsePoint(match.FormatPoint(x))
		expect(t, "a point", got, err, x, api.OK)
	}
	for range 200 {
		f := numbers.affine(1000000, 100000000)
		got, err := match.ParseAffine(match.FormatAffine(f))
		expect(t, "a shift", got, err, f, api.OK)
	}
}
