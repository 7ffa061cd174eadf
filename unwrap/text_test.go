package unwrap_test

import (
	"math"
	"slices"
	"strings"
	"testing"

	"swath/api"
	"swath/unwrap"
)

// P5.1
func TestFormatNet(t *testing.T) {
	for _, x := range []struct {
		what string
		n    api.UnwrapNet
		want string
	}{
		{"the example", triangle(5, 3, 2), "3 0 1 1 5 1 2 0 3 2 0 0 2"},
		{"nothing", net(0), "0"},
		{"no edges", net(200), "200"},
		{"jumps below 0", net(2, edge(0, 1, -1000, 1000)), "2 0 1 -1000 1000"},
		{"a wrong net", net(-3, edge(7, 7, 5000, -5)), "-3 7 7 5000 -5"},
		{"the greatest numbers of all", net(math.MaxInt, edge(math.MinInt, 0, 0, 0)), "9223372036854775807 -9223372036854775808 0 0 0"},
	} {
		before := copyOfNet(x.n)
		expect(t, x.what, unwrap.FormatNet(x.n), api.OK, x.want, api.OK)
		expect(t, "the net behind FormatNet", x.n, api.OK, before, api.OK)
	}
}

// P5.1
func TestParseNet(t *testing.T) {
	for _, x := range []struct {
		s    string
		want api.UnwrapNet
		err  api.Errno
	}{
		{"3 0 1 1 5 1 2 0 3 2 0 0 2", triangle(5, 3, 2), api.OK},
		{"0", net(0), api.OK},
		{"200", net(200), api.OK},
		{"2 0 1 -1000 1000", net(2, edge(0, 1, -1000, 1000)), api.OK},
		{"", net(0), api.ErrSyntax},
		{" ", net(0), api.ErrSyntax},
		{" 3", net(0), api.ErrSyntax},
		{"3 ", net(0), api.ErrSyntax},
		{"3\n", net(0), api.ErrSyntax},
		{"3 0 1 1 5 ", net(0), api.ErrSyntax},
		{"3  0 1 1 5", net(0), api.ErrSyntax},
		{"3\t0 1 1 5", net(0), api.ErrSyntax},
		{"3 0", net(0), api.ErrSyntax},
		{"3 0 1", net(0), api.ErrSyntax},
		{"3 0 1 1", net(0), api.ErrSyntax},
		{"3 0 1 1 5 1", net(0), api.ErrSyntax},
		{"300 0", net(0), api.ErrSyntax},
		{"300 0 1 1 x", net(0), api.ErrSyntax},
		{"9999999", net(0), api.ErrRange},
		{"10000000", net(0), api.ErrSyntax},
		{"-9999999", net(0), api.ErrRange},
		{"-10000000", net(0), api.ErrSyntax},
		{"2 0 1 9999999 0", net(0), api.ErrRange},
		{"2 0 1 10000000 0", net(0), api.ErrSyntax},
		{"2 0 1 0 99999999999999999999", net(0), api.ErrSyntax},
		{"-1", net(0), api.ErrRange},
		{"201", net(0), api.ErrRange},
		{"2 0 2 0 0", net(0), api.ErrMissing},
		{"2 -1 1 0 0", net(0), api.ErrMissing},
		{"2 1 1 0 0", net(0), api.ErrForm},
		{"2 0 1 1001 0", net(0), api.ErrRange},
		{"2 0 1 0 -1", net(0), api.ErrRange},
	} {
		got, err := unwrap.ParseNet(x.s)
		expect(t, "ParseNet of "+x.s, got, err, x.want, x.err)
	}
	for _, word := range []string{"", "00", "01", "+1", "-0", "-", "+", "--1", "-01", "1.", "1e1", "0x1", "1_0", "a", "\u0661", "1\r", "1,", "*"} {
		for at := range 5 {
			words := []string{"2", "0", "1", "1", "1"}
			words[at] = word
			s := strings.Join(words, " ")
			got, err := unwrap.ParseNet(s)
			expect(t, "ParseNet of "+s, got, err, api.UnwrapNet{}, api.ErrSyntax)
		}
	}
}

// P5.1
func TestGreatTexts(t *testing.T) {
	edges := slices.Repeat([]string{"0 1 1 1"}, 601)
	got, err := unwrap.ParseNet("2 " + strings.Join(edges[:600], " "))
	expect(t, "600 edges", len(got.Edges), err, 600, api.OK)
	got, err = unwrap.ParseNet("2 " + strings.Join(edges, " "))
	expect(t, "601 edges", got, err, api.UnwrapNet{}, api.ErrLarge)
	got, err = unwrap.ParseNet("2 " + strings.Join(edges, " ") + " x")
	expect(t, "601 edges and a letter", got, err, api.UnwrapNet{}, api.ErrSyntax)
	got, err = unwrap.ParseNet("2 " + strings.Repeat("0 ", 40000) + "0")
	expect(t, "40001 numbers", got, err, api.UnwrapNet{}, api.ErrSyntax)
	got, err = unwrap.ParseNet(strings.Repeat("9", 100000))
	expect(t, "100000 digits", got, err, api.UnwrapNet{}, api.ErrSyntax)
}

// P5.12
func TestParseNetUndoesFormatNet(t *testing.T) {
	numbers := source(8)
	for range 40 {
		n := numbers.net(numbers.from(2, 200), numbers.from(1, 600), 1000, 1000, true)
		got, err := unwrap.ParseNet(unwrap.FormatNet(n))
		expect(t, "ParseNet of FormatNet", got, err, n, api.OK)
	}
}
