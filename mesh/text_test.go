package mesh_test

import (
	"strings"
	"testing"

	"swath/api"
	"swath/mesh"
)

const cornerText = "point 0 0\npoint 4 0\npoint 0 4\ntriangle 0 1 2\n"

// P6.6
func TestPrint(t *testing.T) {
	for _, x := range []struct {
		n    api.MeshNet
		want string
	}{
		{corner(), cornerText},
		{kite(), "point 0 0\npoint 4 0\npoint 4 4\npoint 0 4\npoint 1 2\ntriangle 0 1 4\ntriangle 0 4 3\ntriangle 1 2 4\ntriangle 2 3 4\n"},
		{net(points(-10000, -10000, 10000, -10000, 0, 10000), [3]int{0, 1, 2}), "point -10000 -10000\npoint 10000 -10000\npoint 0 10000\ntriangle 0 1 2\n"},
	} {
		before := copyOfNet(x.n)
		got, err := mesh.Print(x.n)
		expect(t, "Print", got, err, x.want, api.OK)
		expect(t, "the net behind Print", x.n, api.OK, before, api.OK)
	}
}

// P6.6
func TestParse(t *testing.T) {
	n, line, err := mesh.Parse(cornerText)
	expect(t, "the example", n, err, corner(), api.OK)
	expect(t, "the line of the example", line, err, 0, api.OK)
	for _, x := range []struct {
		s    string
		line int
		err  api.Errno
	}{
		{"\n", 1, api.ErrSyntax},
		{"x", 1, api.ErrSyntax},
		{"\n" + cornerText, 1, api.ErrSyntax},
		{cornerText + "\n", 5, api.ErrSyntax},
		{cornerText + " ", 5, api.ErrSyntax},
		{strings.TrimSuffix(cornerText, "\n"), 4, api.ErrSyntax},
		{cornerText + "triangle 0 1 2", 5, api.ErrSyntax},
		{cornerText + "point 9 9\n", 5, api.ErrSyntax},
		{"triangle 0 1 2\npoint 0 0\n", 2, api.ErrSyntax},
		{"point 0 0\npoint 4\npoint 0\n", 2, api.ErrSyntax},
		{"point\n", 1, api.ErrSyntax},
		{"point 1 2 3\n", 1, api.ErrSyntax},
		{"point  1 2\n", 1, api.ErrSyntax},
		{"point 1 2 \n", 1, api.ErrSyntax},
		{" point 1 2\n", 1, api.ErrSyntax},
		{"point 1\t2\n", 1, api.ErrSyntax},
		{"point 1 2\r\n", 1, api.ErrSyntax},
		{"Point 1 2\n", 1, api.ErrSyntax},
		{"points 1 2\n", 1, api.ErrSyntax},
		{" 1 2\n", 1, api.ErrSyntax},
		{"triangle\n", 1, api.ErrSyntax},
		{"triangle 0 1\n", 1, api.ErrSyntax},
		{"triangle 0 1 2 3\n", 1, api.ErrSyntax},
		{"triangle 0 1 x\n", 1, api.ErrSyntax},
		{"line 0 1 2\n", 1, api.ErrSyntax},
		{"point 20000 0\npoint 20000 0\nx\n", 3, api.ErrSyntax},
		{"point 10000000 0\n", 1, api.ErrSyntax},
		{"point 0 -10000000\n", 1, api.ErrSyntax},
		{"triangle 0 1 10000000\n", 1, api.ErrSyntax},
		{"point 0 99999999999999999999\n", 1, api.ErrSyntax},
		{"point 9999999 0\n", 0, api.ErrRange},
		{"point 0 -9999999\n", 0, api.ErrRange},
		{"point 0 0\npoint 4 0\npoint 0 4\ntriangle 0 1 9999999\n", 0, api.ErrMissing},
		{"point 0 0\npoint 4 0\npoint 0 4\ntriangle 0 1 -2\n", 0, api.ErrMissing},
		{"point 0 0\npoint 4 0\npoint 0 4\ntriangle 0 1 2\ntriangle 0 1 3\n", 0, api.ErrMissing},
		{"triangle 0 1 2\n", 0, api.ErrMissing},
		{"point 0 0\npoint 0 0\n", 0, api.ErrExists},
		{"point 0 0\npoint 4 0\npoint 0 4\ntriangle 1 2 0\n", 0, api.ErrOrder},
		{"point 0 0\npoint 4 0\npoint 0 4\ntriangle 0 2 1\n", 0, api.ErrClash},
		{"point 0 0\npoint 4 0\npoint 0 4\n", 0, api.ErrGap},
		{"point 0 0\n", 0, api.ErrGap},
		{"", 0, api.ErrGap},
	} {
		n, line, err := mesh.Parse(x.s)
		expect(t, "Parse of "+x.s, n, err, api.MeshNet{}, x.err)
		expect(t, "the line of "+x.s, line, err, x.line, x.err)
	}
	for _, word := range []string{"", "00", "01", "+1", "-0", "-", "+", "--1", "-01", "1.", "1e1", "0x1", "1_0", "a", "\u0661", "1,", "*"} {
		for _, s := range []string{"point 0 " + word, "point " + word + " 0", "triangle " + word + " 1 2", "triangle 0 " + word + " 2", "triangle 0 1 " + word} {
			n, line, err := mesh.Parse("point 0 0\n" + s + "\n")
			expect(t, "Parse of "+s, n, err, api.MeshNet{}, api.ErrSyntax)
			expect(t, "the line of "+s, line, err, 2, api.ErrSyntax)
		}
	}
}

// P6.6
func TestGreatTexts(t *testing.T) {
	n, line, err := mesh.Parse(strings.Repeat("point 0 0\n", 6000))
	expect(t, "60000 bytes", n, err, api.MeshNet{}, api.ErrLarge)
	expect(t, "the line of 60000 bytes", line, err, 0, api.ErrLarge)
	n, line, err = mesh.Parse(strings.Repeat("x", 60000))
	expect(t, "60000 letters", n, err, api.MeshNet{}, api.ErrSyntax)
	expect(t, "the line of 60000 letters", line, err, 1, api.ErrSyntax)
	n, line, err = mesh.Parse(strings.Repeat("x", 60001))
	expect(t, "60001 letters", n, err, api.MeshNet{}, api.ErrLarge)
	expect(t, "the line of 60001 letters", line, err, 0, api.ErrLarge)
	n, line, err = mesh.Parse(cornerText + strings.Repeat("triangle 0 1 2\n", 80))
	expect(t, "81 triangles", n, err, api.MeshNet{}, api.ErrLarge)
	expect(t, "the line of 81 triangles", line, err, 0, api.ErrLarge)
}

// P6.11
func TestParseUndoesPrint(t *testing.T) {
	numbers := source(17)
	for i := range 30 {
		n := numbers.net(t, numbers.from(3, 40), [2]int{5, 10000}[i%2])
		text, err := mesh.Print(n)
		expectError(t, "Print", err, api.OK)
		got, line, err := mesh.Parse(text)
		expect(t, "Parse of Print", got, err, n, api.OK)
		expect(t, "the line of Parse of Print", line, err, 0, api.OK)
	}
}
