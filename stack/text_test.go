package stack_test

import (
	"strings"
	"testing"

	"swath/api"
	"swath/stack"
)

const exampleText = "scene a 0 0\nscene b 12 100\nscene c 24 -50\nscene d 36 50\npair 0 1\npair 1 2\npair 0 2\npair 2 3\n"

// P7.1
func TestPrint(t *testing.T) {
	for _, x := range []struct {
		s    api.StackNet
		want string
	}{
		{example(), exampleText},
		{stackOf(nil), ""},
		{stackOf([]api.StackScene{scene("Ab-1", 100000, -100000)}), "scene Ab-1 100000 -100000\n"},
		{stackOf(sameDay(2), pair(0, 1)), "scene s0 0 0\nscene s1 0 0\npair 0 1\n"},
	} {
		before := copyOf(x.s)
		got, err := stack.Print(x.s)
		expect(t, "Print", got, err, x.want, api.OK)
		expect(t, "the stack behind Print", x.s, api.OK, before, api.OK)
	}
}

// P7.1
func TestParse(t *testing.T) {
	for _, x := range []struct {
		t    string
		want api.StackNet
	}{
		{exampleText, example()},
		{"", stackOf(nil)},
		{"scene a 100000 -100000\n", stackOf([]api.StackScene{scene("a", 100000, -100000)})},
	} {
		s, line, err := stack.Parse(x.t)
		expect(t, "Parse of "+x.t, s, err, x.want, api.OK)
		expect(t, "the line of "+x.t, line, err, 0, api.OK)
	}
	for _, x := range []struct {
		t    string
		line int
		err  api.Errno
	}{
		{"\n", 1, api.ErrSyntax},
		{"x", 1, api.ErrSyntax},
		{"scene a 0 0", 1, api.ErrSyntax},
		{"\n" + exampleText, 1, api.ErrSyntax},
		{exampleText + "\n", 9, api.ErrSyntax},
		{exampleText + " ", 9, api.ErrSyntax},
		{strings.TrimSuffix(exampleText, "\n"), 8, api.ErrSyntax},
		{exampleText + "pair 1 3", 9, api.ErrSyntax},
		{exampleText + "scene e 40 0\n", 9, api.ErrSyntax},
		{"pair 0 1\nscene a 0 0\n", 2, api.ErrSyntax},
		{"pair 0 1\nscene a\nscene b 0 0\n", 2, api.ErrSyntax},
		{"scene a 0 0\nscene a 0 0\nx\npair\n", 3, api.ErrSyntax},
		{"scene a 0 0\nx\nscene b 0 0", 2, api.ErrSyntax},
		{"scene\n", 1, api.ErrSyntax},
		{"scene a\n", 1, api.ErrSyntax},
		{"scene a 0\n", 1, api.ErrSyntax},
		{"scene 0 0\n", 1, api.ErrSyntax},
		{"scene a 0 0 0\n", 1, api.ErrSyntax},
		{"scene a b 0 0\n", 1, api.ErrSyntax},
		{"scene a 0 0 \n", 1, api.ErrSyntax},
		{"scene a 0  0\n", 1, api.ErrSyntax},
		{" scene a 0 0\n", 1, api.ErrSyntax},
		{"scene a\t0 0\n", 1, api.ErrSyntax},
		{"scene a 0 0\r\n", 1, api.ErrSyntax},
		{"Scene a 0 0\n", 1, api.ErrSyntax},
		{"scenes a 0 0\n", 1, api.ErrSyntax},
		{" a 0 0\n", 1, api.ErrSyntax},
		{"pair\n", 1, api.ErrSyntax},
		{"pair 0\n", 1, api.ErrSyntax},
		{"pair 0 1 2\n", 1, api.ErrSyntax},
		{"pair a 0 1\n", 1, api.ErrSyntax},
		{"pair  0 1\n", 1, api.ErrSyntax},
		{"Pair 0 1\n", 1, api.ErrSyntax},
		{"pairs 0 1\n", 1, api.ErrSyntax},
		{" 0 1\n", 1, api.ErrSyntax},
		{"0 1\n", 1, api.ErrSyntax},
		{"scene a 10000000 0\n", 1, api.ErrSyntax},
		{"scene a 0 -10000000\n", 1, api.ErrSyntax},
		{"pair 0 10000000\n", 1, api.ErrSyntax},
		{"pair 99999999999999999999 0\n", 1, api.ErrSyntax},
		{"scene a 9999999 0\n", 0, api.ErrRange},
		{"scene a 0 -9999999\n", 0, api.ErrRange},
		{"scene a -1 0\n", 0, api.ErrRange},
		{"scene  0 0\n", 0, api.ErrName},
		{"scene - 0 0\n", 0, api.ErrName},
		{"scene a\tb 0 0\n", 0, api.ErrName},
		{"scene a\r 0 0\n", 0, api.ErrName},
		{"scene \xff\x00 0 0\n", 0, api.ErrName},
		{"scene 7 0 0\n", 0, api.ErrName},
		{"scene scene 0 0\nscene pair 0 0\nscene scene 0 0\n", 0, api.ErrExists},
		{"scene a 0 0\npair 0 1\n", 0, api.ErrMissing},
		{"pair 0 9999999\n", 0, api.ErrMissing},
		{"scene a 0 0\npair -1 0\n", 0, api.ErrMissing},
		{"scene a 0 0\nscene b 0 0\npair 1 0\n", 0, api.ErrOrder},
		{"scene a 0 0\nscene b 0 0\npair 0 1\npair 0 1\n", 0, api.ErrDouble},
	} {
		s, line, err := stack.Parse(x.t)
		expect(t, "Parse of "+x.t, s, err, api.StackNet{}, x.err)
		expect(t, "the line of "+x.t, line, err, x.line, x.err)
	}
	for _, word := range []string{"", "00", "01", "+1", "-0", "-", "+", "--1", "-01", "1.", "1e1", "0x1", "1_0", "a", "\u0661", "1,", "*"} {
		for _, line := range []string{"scene b 0 " + word, "scene b " + word + " 0", "pair 0 " + word, "pair " + word + " 0"} {
			s, number, err := stack.Parse("scene a 0 0\n" + line + "\n")
			expect(t, "Parse of "+line, s, err, api.StackNet{}, api.ErrSyntax)
			expect(t, "the line of "+line, number, err, 2, api.ErrSyntax)
		}
	}
}

// P7.1
func TestGreatTexts(t *testing.T) {
	for _, x := range []struct {
		what string
		t    string
		line int
		err  api.Errno
	}{
		{"60000 bytes", "scene " + strings.Repeat("a", 59989) + " 0 0\n", 0, api.ErrName},
		{"60001 bytes", "scene " + strings.Repeat("a", 59990) + " 0 0\n", 0, api.ErrLarge},
		{"60000 letters", strings.Repeat("x", 60000), 1, api.ErrSyntax},
		{"60001 letters", strings.Repeat("x", 60001), 0, api.ErrLarge},
		{"60000 line feeds", strings.Repeat("\n", 60000), 1, api.ErrSyntax},
		{"61 scenes", strings.Repeat("scene 1 0 0\n", 61), 0, api.ErrLarge},
		{"60 scenes", strings.Repeat("scene 1 0 0\n", 60), 0, api.ErrName},
		{"201 pairs", strings.Repeat("pair 0 1\n", 201), 0, api.ErrLarge},
		{"200 pairs", strings.Repeat("pair 0 1\n", 200), 0, api.ErrMissing},
		{"a line behind many pairs", strings.Repeat("pair 0 1\n", 1000) + "x\n", 1001, api.ErrSyntax},
	} {
		s, line, err := stack.Parse(x.t)
		expect(t, x.what, s, err, api.StackNet{}, x.err)
		expect(t, "the line of "+x.what, line, err, x.line, x.err)
	}
}

// P7.11
func TestParseUndoesPrint(t *testing.T) {
	source := source(9)
	stacks := rightStacks()
	for range 30 {
		scenes := source.from(0, 60)
		stacks = append(stacks, source.stack(scenes, source.from(0, 200), 100000))
	}
	for _, s := range stacks {
		text, err := stack.Print(s)
		expectError(t, "Print", err, api.OK)
		got, line, err := stack.Parse(text)
		expect(t, "Parse of Print", got, err, s, api.OK)
		expect(t, "the line of Parse of Print", line, err, 0, api.OK)
	}
}
