package mesh_test

import (
	"math"
	"math/big"
	"slices"
	"testing"

	"swath/api"
	"swath/mesh"
)

// P6.1
func TestCheckPoints(t *testing.T) {
	for _, l := range [][]api.MeshPoint{
		nil,
		points(1, 1),
		points(0, 0, 1, 1, 2, 2),
		points(10000, -10000, -10000, 10000, 10000, 10000, -10000, -10000),
		points(1, 2, 2, 1, 1, 1, 2, 2),
		manyPoints(40),
	} {
		number, err := mesh.CheckPoints(l)
		expect(t, "points", number, err, 0, api.OK)
	}
	for _, x := range pointsFaults() {
		number, err := mesh.CheckPoints(x.l)
		expect(t, x.what, number, err, x.at, x.err)
	}
}

// P6.1
func TestErrorsOfPoints(t *testing.T) {
	for _, x := range pointsFaults() {
		hull, err := mesh.Hull(x.l)
		expect(t, "Hull: "+x.what, hull, err, nil, x.err)
		triangles, err := mesh.Triangulate(x.l)
		expect(t, "Triangulate: "+x.what, triangles, err, nil, x.err)
	}
	for _, l := range [][]api.MeshPoint{nil, points(0, 0), points(0, 0, 4, 3), points(3, 3, 1, 1, 2, 2, -5, -5), points(7, 3, 7, -3, 7, 0), points(5, 0, -5, 0, 0, 0), points(0, 10000, 10000, 0, 5000, 5000)} {
		hull, err := mesh.Hull(l)
		expect(t, "the hull of a line", hull, err, nil, api.ErrRank)
		triangles, err := mesh.Triangulate(l)
		expect(t, "the triangles of a line", triangles, err, nil, api.ErrRank)
	}
}

// farPlaces have a coordinate beyond the limit.
var farPlaces = points(10001, 0, -10001, 0, 0, 10001, 0, -10001, math.MaxInt, 0, math.MinInt, 0, 0, math.MaxInt, 0, math.MinInt)

// P6.1
func TestTurn(t *testing.T) {
	for _, x := range []struct {
		a, b, c api.MeshPoint
		want    int
	}{
		{at(0, 0), at(4, 0), at(0, 4), 1},
		{at(0, 0), at(0, 4), at(4, 0), -1},
		{at(0, 0), at(2, 2), at(5, 5), 0},
		{at(5, 5), at(0, 0), at(2, 2), 0},
		{at(1, 1), at(1, 1), at(2, 3), 0},
		{at(1, 1), at(1, 1), at(1, 1), 0},
		{at(-10000, -10000), at(10000, 10000), at(9999, 10000), 1},
		{at(-10000, -10000), at(10000, 10000), at(10000, 9999), -1},
		{at(-10000, 10000), at(10000, -10000), at(10000, 10000), 1},
	} {
		got, err := mesh.Turn(x.a, x.b, x.c)
		expect(t, "Turn", got, err, x.want, api.OK)
	}
	for _, far := range farPlaces {
		for _, l := range [][3]api.MeshPoint{{far, at(0, 0), at(1, 1)}, {at(0, 0), far, at(1, 1)}, {at(0, 0), at(1, 1), far}, {far, far, far}} {
			got, err := mesh.Turn(l[0], l[1], l[2])
			expect(t, "Turn far away", got, err, 0, api.ErrRange)
		}
	}
	numbers := source(1)
	for range 300 {
		a, b, c := at(numbers.from(-4, 4), numbers.from(-4, 4)), at(numbers.from(-4, 4), numbers.from(-4, 4)), at(numbers.from(-4, 4), numbers.from(-4, 4))
		got, err := mesh.Turn(a, b, c)
		expect(t, "Turn by its definition", got, err, turnOf(a, b, c), api.OK)
	}
}

func fraction(num, den int64) *big.Rat { return big.NewRat(num, den) }

// inCircle goes by the definition: it takes the centre of the circle, and compares the squares of the distances.
func inCircle(t [3]api.MeshPoint, d api.MeshPoint) int {
	a := t[0]
	bx, by, cx, cy := int64(t[1].X-a.X), int64(t[1].Y-a.Y), int64(t[2].X-a.X), int64(t[2].Y-a.Y)
	double := 2 * (bx*cy - by*cx)
	x := fraction(cy*(bx*bx+by*by)-by*(cx*cx+cy*cy), double)
	y := fraction(bx*(cx*cx+cy*cy)-cx*(bx*bx+by*by), double)
	square := func(p api.MeshPoint) *big.Rat {
		dx := new(big.Rat).Sub(fraction(int64(p.X-a.X), 1), x)
		dy := new(big.Rat).Sub(fraction(int64(p.Y-a.Y), 1), y)
		return dx.Add(dx.Mul(dx, dx), dy.Mul(dy, dy))
	}
	return square(a).Cmp(square(d))
}

// P6.1
func TestInCircle(t *testing.T) {
	right := [3]api.MeshPoint{at(0, 0), at(2, 0), at(0, 2)}
	for _, x := range []struct {
		t    [3]api.MeshPoint
		d    api.MeshPoint
		want int
	}{
		{right, at(2, 2), 0},
		{right, at(1, 1), 1},
		{right, at(3, 0), -1},
		{right, at(0, 0), 0},
		{right, at(0, 2), 0},
		{right, at(2, 1), 1},
		{right, at(-1, 1), -1},
		{[3]api.MeshPoint{at(0, 0), at(0, 2), at(2, 0)}, at(1, 1), 1},
		{[3]api.MeshPoint{at(0, 0), at(0, 2), at(2, 0)}, at(2, 2), 0},
		{[3]api.MeshPoint{at(0, 0), at(0, 2), at(2, 0)}, at(3, 0), -1},
		{[3]api.MeshPoint{at(-10000, -10000), at(10000, -10000), at(10000, 10000)}, at(-10000, 10000), 0},
		{[3]api.MeshPoint{at(-10000, -10000), at(10000, -10000), at(10000, 10000)}, at(-9999, 10000), 1},
		{[3]api.MeshPoint{at(-9999, -10000), at(10000, -10000), at(10000, 10000)}, at(-10000, 10000), -1},
		{[3]api.MeshPoint{at(-10000, -10000), at(10000, -10000), at(0, -9999)}, at(0, 10000), -1},
		{[3]api.MeshPoint{at(-10000, -10000), at(10000, -10000), at(0, -9999)}, at(0, -10000), 1},
	} {
		got, err := mesh.InCircle(x.t, x.d)
		expect(t, "InCircle", got, err, x.want, api.OK)
	}
	for _, l := range [][3]api.MeshPoint{{at(0, 0), at(1, 1), at(2, 2)}, {at(0, 0), at(0, 0), at(1, 5)}, {at(3, 3), at(0, 0), at(3, 3)}, {at(-10000, -10000), at(10000, 10000), at(0, 0)}, {}} {
		got, err := mesh.InCircle(l, at(1, 0))
		expect(t, "InCircle of a line", got, err, 0, api.ErrRank)
	}
	for _, far := range farPlaces {
		for i := range right {
			l := right
			l[i] = far
			got, err := mesh.InCircle(l, at(1, 1))
			expect(t, "InCircle far away", got, err, 0, api.ErrRange)
		}
		got, err := mesh.InCircle(right, far)
		expect(t, "InCircle of a far point", got, err, 0, api.ErrRange)
		got, err = mesh.InCircle([3]api.MeshPoint{}, far)
		expect(t, "InCircle of a line and a far point", got, err, 0, api.ErrRange)
	}
}

// P6.1
func TestInCircleByDefinition(t *testing.T) {
	numbers := source(2)
	for i := range 2000 {
		most := [4]int{2, 4, 30, 10000}[i%4]
		l := numbers.points(4, most)
		three := [3]api.MeshPoint(l[:3])
		if turnOf(l[0], l[1], l[2]) == 0 {
			continue
		}
		got, err := mesh.InCircle(three, l[3])
		expect(t, "InCircle by its definition", got, err, inCircle(three, l[3]), api.OK)
	}
}

// P6.1
func TestHull(t *testing.T) {
	for _, x := range []struct {
		what string
		l    []api.MeshPoint
		want []int
	}{
		{"the example", kite().Points, []int{0, 1, 2, 3}},
		{"a triangle", corner().Points, []int{0, 1, 2}},
		{"a triangle the other way round", points(0, 4, 4, 0, 0, 0), []int{2, 1, 0}},
		{"points on the border", points(0, 0, 1, 0, 2, 0, 2, 1, 2, 2, 1, 2, 0, 2, 0, 1, 1, 1), []int{0, 2, 4, 6}},
		{"the least X at two points", points(0, 4, 9, 2, 0, 0), []int{2, 1, 0}},
		{"a line and a point", points(3, 0, 1, 0, 2, 0, 0, 0, 2, 5), []int{3, 0, 4}},
		{"a line upwards and a point", points(0, 3, 0, 1, 0, 2, 5, 2), []int{1, 3, 0}},
		{"the limits", points(10000, 10000, 0, 0, -10000, 10000, 10000, -10000, -10000, -10000), []int{4, 3, 0, 2}},
	} {
		before := slices.Clone(x.l)
		got, err := mesh.Hull(x.l)
		expect(t, x.what, got, err, x.want, api.OK)
		expect(t, "the points behind Hull", x.l, api.OK, before, api.OK)
	}
}

// P6.1: the points all lie at the left of the sides of the hull, or on them, and it turns at its corners.
func TestHullByDefinition(t *testing.T) {
	numbers := source(3)
	for i := range 300 {
		l := numbers.points(numbers.from(4, 40), [3]int{4, 12, 10000}[i%3])
		hull, err := mesh.Hull(l)
		expectError(t, "Hull", err, api.OK)
		if len(hull) < 3 {
			t.Fatalf("the hull %v of %v", hull, l)
		}
		for k, corner := range hull {
			next, second := hull[(k+1)%len(hull)], hull[(k+2)%len(hull)]
			expect(t, "a corner", turnOf(l[corner], l[next], l[second]), api.OK, 1, api.OK)
			for _, p := range l {
				if turnOf(l[corner], l[next], p) < 0 {
					t.Errorf("%v is outside the hull %v of %v", p, hull, l)
				}
			}
		}
		first := l[hull[0]]
		for _, p := range l {
			if p.X < first.X || p.X == first.X && p.Y < first.Y {
				t.Errorf("the hull %v of %v begins behind %v", hull, l, p)
			}
		}
	}
}
