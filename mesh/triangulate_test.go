package mesh_test

import (
	"slices"
	"testing"

	"swath/api"
	"swath/mesh"
)

// firstIllegal goes by the definition.
func firstIllegal(n api.MeshNet) ([2]int, api.Errno) {
	for _, e := range edgesOf(n) {
		left, right := leftOf(n, e), leftOf(n, [2]int{e[1], e[0]})
		if left < 0 || right < 0 {
			continue
		}
		var circle [3]api.MeshPoint
		for k, p := range n.Triangles[left] {
			circle[k] = n.Points[p]
		}
		for _, far := range n.Triangles[right] {
			if inCircle(circle, n.Points[far]) > 0 {
				return e, api.OK
			}
		}
	}
	return [2]int{}, api.ErrNone
}

// P6.3
func TestFirstIllegal(t *testing.T) {
	thin := points(0, 0, 4, 0, 8, 9, 4, 1)
	long := [][3]int{{0, 1, 3}, {0, 3, 2}, {1, 2, 3}}
	for _, x := range []struct {
		what string
		n    api.MeshNet
		want [2]int
		err  api.Errno
	}{
		{"the example", kite(), [2]int{}, api.ErrNone},
		{"one triangle", corner(), [2]int{}, api.ErrNone},
		{"four points on a circle", net(points(0, 0, 4, 0, 4, 4, 0, 4), [3]int{0, 1, 2}, [3]int{0, 2, 3}), [2]int{}, api.ErrNone},
		{"the same, turned", net(points(0, 0, 4, 0, 4, 4, 0, 4), [3]int{0, 1, 3}, [3]int{1, 2, 3}), [2]int{}, api.ErrNone},
		{"the long diagonal", net(points(0, 0, 4, -1, 8, 0, 4, 1), [3]int{0, 1, 2}, [3]int{0, 2, 3}), [2]int{0, 2}, api.OK},
		{"the short diagonal", net(points(0, 0, 4, -1, 8, 0, 4, 1), [3]int{0, 1, 3}, [3]int{1, 2, 3}), [2]int{}, api.ErrNone},
		{"a point inside", net(thin, long...), [2]int{}, api.ErrNone},
		{"two illegal edges", net(points(0, 0, 9, 0, 9, 9, 0, 9, 1, 2), [3]int{0, 1, 2}, [3]int{0, 2, 4}, [3]int{0, 4, 3}, [3]int{2, 3, 4}), [2]int{0, 2}, api.OK},
	} {
		before := copyOfNet(x.n)
		got, err := mesh.FirstIllegal(x.n)
		expect(t, x.what, got, err, x.want, x.err)
		expect(t, "the net behind FirstIllegal", x.n, api.OK, before, api.OK)
	}
	numbers := source(9)
	illegal := 0
	for range 100 {
		n := numbers.net(t, numbers.from(4, 12), 6)
		want, wantErr := firstIllegal(n)
		got, err := mesh.FirstIllegal(n)
		expect(t, "FirstIllegal by its definition", got, err, want, wantErr)
		if err == api.OK {
			illegal++
		}
	}
	if illegal < 30 {
		t.Errorf("only %d nets are illegal", illegal)
	}
}

// trickyPoints are points of which many lie on lines and circles.
func trickyPoints() [][]api.MeshPoint {
	var grid, fan, ring, comb []api.MeshPoint
	for i := range 40 {
		grid = append(grid, at(i%8*3, i/8*3))
		comb = append(comb, at(i%20, i/20*10000))
	}
	for i := range 39 {
		fan = append(fan, at(0, (i*7%39)*200-5000))
	}
	for _, p := range [][2]int{{5, 0}, {4, 3}, {3, 4}, {0, 5}} {
		ring = append(ring, at(p[0], p[1]), at(-p[1], p[0]), at(-p[0], -p[1]), at(p[1], -p[0]))
	}
	ring = ring[:12]
	return [][]api.MeshPoint{
		grid,
		comb,
		append(slices.Clone(fan), at(10000, 1)),
		append([]api.MeshPoint{at(-1, -10000)}, fan...),
		ring,
		append(slices.Clone(ring), at(0, 0), at(1, 1), at(-2, 1)),
		points(0, 0, 1, 0, 2, 0, 3, 0, 4, 0, 4, 1),
		points(4, 1, 4, 0, 3, 0, 2, 0, 1, 0, 0, 0),
		points(0, 0, 1, 1, 2, 2, 3, 3, 1, 0),
		points(-10000, -10000, 10000, 10000, -10000, 10000, 10000, -10000, 9999, 10000),
	}
}

// expectTriangles checks what a net by Triangulate is: right, legal, with empty circles, and with the count of P6.8.
func expectTriangles(t *testing.T, l []api.MeshPoint) {
	t.Helper()
	before := slices.Clone(l)
	triangles, err := mesh.Triangulate(l)
	expectError(t, "Triangulate", err, api.OK)
	expect(t, "the points behind Triangulate", l, api.OK, before, api.OK)
	n := net(l, triangles...)
	number, err := mesh.CheckNet(n)
	expect(t, "CheckNet of Triangulate", number, err, 0, api.OK)
	_, err = mesh.FirstIllegal(n)
	expectError(t, "FirstIllegal of Triangulate", err, api.ErrNone)
	for _, s := range triangles {
		circle := [3]api.MeshPoint{l[s[0]], l[s[1]], l[s[2]]}
		for _, p := range l {
			if inCircle(circle, p) > 0 {
				t.Errorf("%v is in the circle through %v", p, circle)
			}
		}
	}
}

// P6.3, P6.7
func TestTriangulate(t *testing.T) {
	got, err := mesh.Triangulate(corner().Points)
	expect(t, "one triangle", got, err, [][3]int{{0, 1, 2}}, api.OK)
	got, err = mesh.Triangulate(points(0, 4, 4, 0, 0, 0))
	expect(t, "one triangle the other way round", got, err, [][3]int{{0, 2, 1}}, api.OK)
	got, err = mesh.Triangulate(kite().Points)
	expect(t, "the example", got, err, kite().Triangles, api.OK)
	got, err = mesh.Triangulate(points(0, 0, 4, -1, 8, 0, 4, 1))
	expect(t, "the short diagonal", got, err, [][3]int{{0, 1, 3}, {1, 2, 3}}, api.OK)
	for _, l := range trickyPoints() {
		expectTriangles(t, l)
		slices.Reverse(l)
		expectTriangles(t, l)
	}
	numbers := source(10)
	for i := range 150 {
		expectTriangles(t, numbers.points(numbers.from(3, 40), [4]int{4, 7, 50, 10000}[i%4]))
	}
}

// P6.8
func TestCounts(t *testing.T) {
	numbers := source(11)
	for i := range 100 {
		n := numbers.net(t, numbers.from(3, 40), [3]int{4, 7, 10000}[i%3])
		hull, err := mesh.Hull(n.Points)
		expectError(t, "Hull", err, api.OK)
		border := 0
		for _, p := range n.Points {
			for k := range hull {
				if turnOf(n.Points[hull[k]], n.Points[hull[(k+1)%len(hull)]], p) == 0 {
					border++
					break
				}
			}
		}
		expect(t, "the triangles", len(n.Triangles), api.OK, 2*len(n.Points)-border-2, api.OK)
		edges, err := mesh.Edges(n)
		expect(t, "the edges", len(edges), err, 3*len(n.Points)-border-3, api.OK)
	}
}
