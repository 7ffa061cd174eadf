package orbit_test

import (
	"strconv"
	"strings"
	"testing"

	"swath/api"
	"swath/orbit"
)

const sampleText = "orbit p bend 2\nstate 0 0 0 100 1\nstate 10 50 20 100 3\n"

// P2.7
func TestPrint(t *testing.T) {
	got, err := orbit.Print(sample())
	expect(t, "Print", got, err, sampleText, api.OK)
	got, err = orbit.Print(orbitOf("A-1", 0, state(999999999, -100000000, 0, -1, 100000), state(1000000000, 0, 0, 0, 0)))
	expect(t, "Print", got, err, "orbit A-1 bend 0\nstate 999999999 -100000000 0 -1 100000\nstate 1000000000 0 0 0 0\n", api.OK)
}

// P2.7
func TestParse(t *testing.T) {
	for _, text := range []string{
		sampleText,
		"orbit p bend 2\nstate 0 0 0 100 1\nstate 10 50 20 100 3",
		"\n \t\n;\n  ; orbit q bend 3\n\torbit  p\tbend 2 ;; state\n\nstate 0 0 0 100 1;2\n;\nstate\t10 50 20\t\t100 3 \t\n\n;x",
		"orbit p bend 2;\n;state 1 1 1 1 1\nstate 0 0 0 100 1\n\n\n\nstate 10 50 20 100 3\n\n\n",
	} {
		got, mark, err := orbit.Parse(text)
		expect(t, "Parse of "+text, got, err, sample(), api.OK)
		expect(t, "its mark", mark, err, api.TextMark{}, api.OK)
	}
}

type textFault struct {
	text         string
	line, column int
	err          api.Errno
}

func expectFaults(t *testing.T, faults []textFault) {
	t.Helper()
	for _, x := range faults {
		got, mark, err := orbit.Parse(x.text)
		expect(t, "Parse of "+x.text, mark, err, api.TextMark{Line: x.line, Column: x.column}, x.err)
		expect(t, "the orbit beside it", got, err, api.Orbit{}, x.err)
	}
}

// P2.7: the first line that is not left out.
func TestParseOfWrongOrbits(t *testing.T) {
	expectFaults(t, []textFault{
		{"x", 1, 1, api.ErrSyntax},
		{"\n\n  state 1 2 3 4 5", 3, 3, api.ErrSyntax},
		{"Orbit p bend 2", 1, 1, api.ErrSyntax},
		{"orbitp bend 2", 1, 1, api.ErrSyntax},
		{"orbit\r", 1, 1, api.ErrSyntax},
		{"\v", 1, 1, api.ErrSyntax},
		{"orbit", 1, 6, api.ErrMissing},
		{"orbit \t ; p bend 2", 1, 6, api.ErrMissing},
		{"orbit p\n", 1, 8, api.ErrMissing},
		{"orbit p;bend 2\n", 1, 8, api.ErrMissing},
		{"  orbit   p   ", 1, 12, api.ErrMissing},
		{"orbit p bend", 1, 13, api.ErrMissing},
		{"orbit 1 bend", 1, 7, api.ErrName},
		{"orbit p_ band x y", 1, 7, api.ErrName},
		{"orbit abcdefghijklm", 1, 7, api.ErrName},
		{"orbit \u00e9 bend 2", 1, 7, api.ErrName},
		{"orbit p band", 1, 9, api.ErrSyntax},
		{"orbit p 2 bend", 1, 9, api.ErrSyntax},
		{"orbit \u00e9a;\n", 1, 7, api.ErrName},
		{"orbit p\tbend x", 1, 14, api.ErrSyntax},
		{"orbit p bend 02", 1, 14, api.ErrSyntax},
		{"orbit p bend -0", 1, 14, api.ErrSyntax},
		{"orbit p bend -", 1, 14, api.ErrSyntax},
		{"orbit p bend +2", 1, 14, api.ErrSyntax},
		{"orbit p bend 10000000000", 1, 14, api.ErrSyntax},
		{"orbit p bend 2\r\n", 1, 14, api.ErrSyntax},
		{"orbit p bend 2 3", 1, 16, api.ErrSyntax},
		{"orbit p bend -1 x y", 1, 17, api.ErrSyntax},
		{"orbit p bend -1", 1, 14, api.ErrRange},
		{"orbit p bend 100001\nx", 1, 14, api.ErrRange},
		{"orbit p bend 9999999999", 1, 14, api.ErrRange},
		{"orbit p bend 2\norbit p bend 2", 2, 1, api.ErrSyntax},
		{"orbit p bend 2\n\n bend 2", 3, 2, api.ErrSyntax},
	})
}

// P2.7: the lines of states.
func TestParseOfWrongStates(t *testing.T) {
	var faults []textFault
	for _, x := range []textFault{
		{"State", 0, 1, api.ErrSyntax},
		{"\u00e9 state", 0, 1, api.ErrSyntax},
		{"state", 0, 6, api.ErrMissing},
		{"state 1 2 3 4", 0, 14, api.ErrMissing},
		{"state 1 2 3 4 ;5", 0, 14, api.ErrMissing},
		{"state x", 0, 7, api.ErrSyntax},
		{"state 1 2 3 -0", 0, 13, api.ErrSyntax},
		{"state 1 2 3 4 05", 0, 15, api.ErrSyntax},
		{"state 1 2 3 4 5 6", 0, 17, api.ErrSyntax},
		{"state -1 x", 0, 10, api.ErrSyntax},
		{"state -1 2 3 4", 0, 15, api.ErrMissing},
		{"state -1 2 3 4 5 6", 0, 18, api.ErrSyntax},
		{"state -1 2 3 4 5", 0, 7, api.ErrRange},
		{"state 1000000001 2 3 4 5", 0, 7, api.ErrRange},
		{"state 9 2 3 4 5", 0, 7, api.ErrOrder},
		{"state 8 2 3 4 5", 0, 7, api.ErrOrder},
		{"state 8 100000001 3 4 5", 0, 7, api.ErrOrder},
		{"state 20006 2 3 4 5", 0, 7, api.ErrLarge},
		{"state 20006 2 3 4 -5", 0, 7, api.ErrLarge},
		{"state 10 100000001 3 4 5", 0, 10, api.ErrRange},
		{"state 10 -100000001 3 4 5", 0, 10, api.ErrRange},
		{"state 10 2 100000001 4 5", 0, 12, api.ErrRange},
		{"state 10 2 3 -9999999999 5", 0, 14, api.ErrRange},
		{"state 10 2 3 4 -1", 0, 16, api.ErrRange},
		{"state 10 2 3 4 100001", 0, 16, api.ErrRange},
		{"state 10 2 3 100000001 100001", 0, 14, api.ErrRange},
		{"state 20005 2 3 4 5\nx", 1, 1, api.ErrSyntax},
	} {
		x.text = "orbit p bend 2\nstate 5 0 0 0 0\n\n;\nstate 9 0 0 0 0\n" + x.text
		x.line += 6
		faults = append(faults, x)
	}
	expectFaults(t, faults)
}

// P2.7: what is told behind all lines.
func TestParseOfShortTexts(t *testing.T) {
	expectFaults(t, []textFault{
		{"", 1, 1, api.ErrMissing},
		{"\n", 2, 1, api.ErrMissing},
		{" ", 2, 1, api.ErrMissing},
		{"\n\n;", 4, 1, api.ErrMissing},
		{"; orbit p bend 2\n\n", 3, 1, api.ErrMissing},
		{"orbit p bend 2", 2, 1, api.ErrShape},
		{"orbit p bend 2\n", 2, 1, api.ErrShape},
		{"orbit p bend 2\nstate 0 0 0 100 1", 3, 1, api.ErrShape},
		{"orbit p bend 2\nstate 0 0 0 100 1\n", 3, 1, api.ErrShape},
		{"orbit p bend 2\nstate 0 0 0 100 1\n\n \n", 5, 1, api.ErrShape},
		{"orbit p bend 2\nstate 0 0 0 100 1\n\n \n;", 6, 1, api.ErrShape},
	})
}

// P2.7
func TestParseOfLongTexts(t *testing.T) {
	text := sampleText + strings.Repeat(" ", api.MaxText-len(sampleText))
	got, mark, err := orbit.Parse(text)
	expect(t, "60000 bytes", got, err, sample(), api.OK)
	expect(t, "their mark", mark, err, api.TextMark{}, api.OK)
	expectFaults(t, []textFault{
		{text + " ", 0, 0, api.ErrLarge},
		{strings.Repeat("x", api.MaxText+1), 0, 0, api.ErrLarge},
		{strings.Repeat("x", api.MaxText), 1, 1, api.ErrSyntax},
		{strings.Repeat("\n", api.MaxText), api.MaxText + 1, 1, api.ErrMissing},
	})
}

// P2.7: there is room for 40 states.
func TestParseOfManyStates(t *testing.T) {
	text := "orbit p bend 2\n"
	for tick := range 40 {
		text += "state " + strconv.Itoa(tick) + " 0 0 0 0\n"
	}
	got, _, err := orbit.Parse(text)
	expect(t, "40 states", len(got.States), err, 40, api.OK)
	expectFaults(t, []textFault{
		{text + "\n  state 40 0 0 0 0\n", 43, 3, api.ErrLarge},
		{text + "state -1 0 0 0 0\n", 42, 1, api.ErrLarge},
		{text + "state 3 100000001 0 0 0\n", 42, 1, api.ErrLarge},
		{text + "states 40 0 0 0 0\n", 42, 1, api.ErrSyntax},
		{text + "state 40 0 0 0\n", 42, 15, api.ErrMissing},
		{text + "state 40 0 0 0 0 0\n", 42, 18, api.ErrSyntax},
	})
}

// P2.10
func TestParseUndoesPrint(t *testing.T) {
	numbers := source(9)
	orbits := []api.Orbit{orbitOf(letters(12), 100000, manyStates(40)...), three()}
	for range 100 {
		orbits = append(orbits, numbers.orbit(api.MaxPlace, api.MaxOrbitError))
	}
	for _, o := range orbits {
		text, err := orbit.Print(o)
		expect(t, "Print", text != "" && len(text) <= api.MaxText, err, true, api.OK)
		back, mark, err := orbit.Parse(text)
		expect(t, "Parse of Print", back, err, o, api.OK)
		expect(t, "its mark", mark, err, api.TextMark{}, api.OK)
	}
}
