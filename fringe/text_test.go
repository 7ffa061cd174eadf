package fringe_test

import (
	"strings"
	"testing"

	"swath/api"
	"swath/fringe"
)

// P4.7
func TestPrint(t *testing.T) {
	for _, x := range []struct {
		m    api.PhaseMap
		want string
	}{
		{phases(1, 2, 5, void), "phases 1 2\n5 *\n"},
		{phases(1, 1, void), "phases 1 1\n*\n"},
		{phases(2, 3, 0, -1, 2048, 100000000, -100000000, -2048), "phases 2 3\n0 -1 2048\n100000000 -100000000 -2048\n"},
		{phases(3, 1, 1, 2, 3), "phases 3 1\n1\n2\n3\n"},
	} {
		got, err := fringe.Print(x.m)
		expect(t, "Print", got, err, x.want, api.OK)
	}
}

// P4.7
func TestParse(t *testing.T) {
	for _, x := range []struct {
		s    string
		want api.PhaseMap
	}{
		{"phases 1 2\n5 *\n", phases(1, 2, 5, void)},
		{"phases 1 1\n*\n", phases(1, 1, void)},
		{"phases 2 3\n0 -1 2048\n100000000 -100000000 -2048\n", phases(2, 3, 0, -1, 2048, 100000000, -100000000, -2048)},
		{"phases 2 1\n*\n0\n", phases(2, 1, void, 0)},
	} {
		got, line, err := fringe.Parse(x.s)
		expect(t, x.s, got, err, x.want, api.OK)
		expect(t, "the line", line, err, 0, api.OK)
	}
}

// P4.7
func TestErrorsOfTexts(t *testing.T) {
	for _, x := range []struct {
		s    string
		line int
		err  api.Errno
	}{
		{"", 1, api.ErrSyntax},
		{"\n", 1, api.ErrSyntax},
		{"phases 1 1", 1, api.ErrSyntax},
		{"phases\n", 1, api.ErrSyntax},
		{"phases 1\n1\n", 1, api.ErrSyntax},
		{"phases 1 1 1\n1\n", 1, api.ErrSyntax},
		{"phases 1 *\n1\n", 1, api.ErrSyntax},
		{"phases * 1\n1\n", 1, api.ErrSyntax},
		{"phase 1 1\n1\n", 1, api.ErrSyntax},
		{"Phases 1 1\n1\n", 1, api.ErrSyntax},
		{"1 1\n1\n", 1, api.ErrSyntax},
		{"1 1 1\n1\n", 1, api.ErrSyntax},
		{" phases 1 1\n1\n", 1, api.ErrSyntax},
		{"phases  1 1\n1\n", 1, api.ErrSyntax},
		{"phases 1  1\n1\n", 1, api.ErrSyntax},
		{"phases 1 1 \n1\n", 1, api.ErrSyntax},
		{"phases\t1 1\n1\n", 1, api.ErrSyntax},
		{"phases 1 1\r\n1\r\n", 1, api.ErrSyntax},
		{"phases 1 01\n1\n", 1, api.ErrSyntax},
		{"phases 1 1000000000\n1\n", 1, api.ErrSyntax},
		{"\nphases 1 1\n1\n", 1, api.ErrSyntax},
		{"phases 1 1\n\n", 2, api.ErrSyntax},
		{"phases 1 1\n1", 2, api.ErrSyntax},
		{"phases 1 1\n*", 2, api.ErrSyntax},
		{"phases 1 1\n**\n", 2, api.ErrSyntax},
		{"phases 1 1\n-*\n", 2, api.ErrSyntax},
		{"phases 1 1\nphases 1 1\n", 2, api.ErrSyntax},
		{"phases 1 1\n1\n\n", 3, api.ErrSyntax},
		{"phases 1 1\n1\n2", 3, api.ErrSyntax},
		{"phases 1 1\n1\n ", 3, api.ErrSyntax},
		{"phases 2 1\n1\nx\n", 3, api.ErrSyntax},
		{"phases 2 1\ny\nx\n", 2, api.ErrSyntax},
		{"phases 2 1\nx\n1", 2, api.ErrSyntax},
		{"x 2 1\n1\nx", 1, api.ErrSyntax},
		{"phases 65 1\nx\n", 2, api.ErrSyntax},
		{"phases 2 2\n1\n1\nx\n", 4, api.ErrSyntax},
		{"phases 1 1\n", 0, api.ErrShape},
		{"phases 2 1\n1\n", 0, api.ErrShape},
		{"phases 1 1\n1\n2\n", 0, api.ErrShape},
		{"phases 1 2\n1\n", 0, api.ErrShape},
		{"phases 1 1\n1 *\n", 0, api.ErrShape},
		{"phases 2 2\n1 2 3\n4\n", 0, api.ErrShape},
		{"phases 2 2\n1 2\n4\n", 0, api.ErrShape},
		{"phases 0 1\n1\n", 0, api.ErrShape},
		{"phases 1 0\n1\n", 0, api.ErrShape},
		{"phases -1 -1\n1\n", 0, api.ErrShape},
		{"phases 999999999 999999999\n1\n", 0, api.ErrShape},
		{"phases 1 1\n999999999 1\n", 0, api.ErrShape},
		{"phases 0 0\n", 0, api.ErrRange},
		{"phases 0 5\n", 0, api.ErrRange},
		{"phases 1 1\n100000001\n", 0, api.ErrRange},
		{"phases 1 2\n1 -100000001\n", 0, api.ErrRange},
		{"phases 1 1\n999999999\n", 0, api.ErrRange},
		{"phases 1 65\n1" + strings.Repeat(" 1", 64) + "\n", 0, api.ErrRange},
		{"phases 65 1\n" + strings.Repeat("1\n", 65), 0, api.ErrRange},
	} {
		got, line, err := fringe.Parse(x.s)
		expect(t, x.s, got, err, api.PhaseMap{}, x.err)
		expect(t, "the line of "+x.s, line, err, x.line, x.err)
	}
}

// P4.7
func TestErrorsOfWords(t *testing.T) {
	for _, word := range []string{
		"+1", "-0", "00", "01", "-01", "-", "--1", "1-", "1.0", "1e1", "0x1", "1_0", "a", "\u0661", "\x00", "1\x00",
		"1000000000", "-1000000000", "0000000001", "1000000000000", "99999999999999999999", "-99999999999999999999",
	} {
		for _, s := range []string{"phases 1 2\n" + word + " 1\n", "phases 1 2\n1 " + word + "\n"} {
			got, line, err := fringe.Parse(s)
			expect(t, s, got, err, api.PhaseMap{}, api.ErrSyntax)
			expect(t, "the line of "+s, line, err, 2, api.ErrSyntax)
		}
		for _, s := range []string{"phases " + word + " 1\n1\n", "phases 1 " + word + "\n1\n"} {
			got, line, err := fringe.Parse(s)
			expect(t, s, got, err, api.PhaseMap{}, api.ErrSyntax)
			expect(t, "the line of "+s, line, err, 1, api.ErrSyntax)
		}
	}
}

// P4.7
func TestGreatTexts(t *testing.T) {
	for _, x := range []struct {
		what string
		s    string
		line int
		err  api.Errno
	}{
		{"60001 bytes", strings.Repeat("x", 60001), 0, api.ErrLarge},
		{"60000 bytes", strings.Repeat("x", 60000), 1, api.ErrSyntax},
		{"60001 digits", strings.Repeat("1", 60001), 0, api.ErrLarge},
		{"60000 bytes that are wrong at the end", "phases 1 1\n" + strings.Repeat("1\n", 29994) + "\n", 29996, api.ErrSyntax},
		{"59999 bytes with too many lines", "phases 1 1\n" + strings.Repeat("1\n", 29994), 0, api.ErrShape},
		{"60001 bytes with too many lines", "phases 1 1\n" + strings.Repeat("1\n", 29995), 0, api.ErrLarge},
		{"a great number", "phases 1 1\n" + strings.Repeat("9", 59000) + "\n", 2, api.ErrSyntax},
	} {
		got, line, err := fringe.Parse(x.s)
		expect(t, x.what, got, err, api.PhaseMap{}, x.err)
		expect(t, "the line of "+x.what, line, err, x.line, x.err)
	}
}

// P4.11
func TestParseUndoesPrint(t *testing.T) {
	numbers := source(12)
	for range 30 {
		m := numbers.phases(numbers.from(1, 64), numbers.from(1, 64), numbers.from(1, 100000000), numbers.from(1, 5))
		text, err := fringe.Print(m)
		expectError(t, "Print", err, api.OK)
		got, line, err := fringe.Parse(text)
		expect(t, "Parse of Print", got, err, m, api.OK)
		expect(t, "the line", line, err, 0, api.OK)
	}
	longest := phases(64, 64)
	for range 64 * 64 {
		longest.Phases = append(longest.Phases, -100000000)
	}
	text, err := fringe.Print(longest)
	expectError(t, "Print", err, api.OK)
	got, _, err := fringe.Parse(text)
	expect(t, "the longest text", got, err, longest, api.OK)
}
