package mesh_test

import (
	"slices"
	"testing"

	"swath/api"
	"swath/mesh"
)

// rightNets are nets that CheckNet accepts.
func rightNets() []api.MeshNet {
	square := points(0, 0, 4, 0, 4, 4, 0, 4)
	return []api.MeshNet{
		kite(),
		corner(),
		net(points(0, 4, 4, 0, 0, 0), [3]int{0, 2, 1}),
		net(square, [3]int{0, 1, 2}, [3]int{0, 2, 3}),
		net(square, [3]int{0, 1, 3}, [3]int{1, 2, 3}),
		net(points(0, 0, 2, 0, 4, 0, 0, 4), [3]int{0, 1, 3}, [3]int{1, 2, 3}),
		net(points(0, 0, 9, 0, 0, 9, 1, 1), [3]int{0, 1, 3}, [3]int{0, 3, 2}, [3]int{1, 2, 3}),
		net(points(-10000, -10000, 10000, -10000, 10000, 10000), [3]int{0, 1, 2}),
	}
}

// P6.3
func TestCheckNet(t *testing.T) {
	for _, n := range rightNets() {
		before := copyOfNet(n)
		number, err := mesh.CheckNet(n)
		expect(t, "a net", number, err, 0, api.OK)
		expect(t, "the net behind CheckNet", n, api.OK, before, api.OK)
	}
	for _, x := range netFaults() {
		number, err := mesh.CheckNet(x.n)
		expect(t, x.what, number, err, x.at, x.err)
	}
}

// The errors of a net are those of all functions that take one, ahead of their own.
func TestErrorsOfNets(t *testing.T) {
	for _, x := range netFaults() {
		e, err := mesh.FirstIllegal(x.n)
		expect(t, "FirstIllegal: "+x.what, e, err, [2]int{}, x.err)
		edges, err := mesh.Edges(x.n)
		expect(t, "Edges: "+x.what, edges, err, nil, x.err)
		sides, err := mesh.Sides(x.n)
		expect(t, "Sides: "+x.what, sides, err, nil, x.err)
		least, err := mesh.Components(x.n, nil)
		expect(t, "Components: "+x.what, least, err, nil, x.err)
		differences, err := mesh.Differences(x.n, []int{5000})
		expect(t, "Differences: "+x.what, differences, err, nil, x.err)
		closures, err := mesh.Closures(x.n, nil)
		expect(t, "Closures: "+x.what, closures, err, nil, x.err)
		field, err := mesh.Field(x.n, []int{5000}, []int{5000})
		expect(t, "Field: "+x.what, field, err, nil, x.err)
		text, err := mesh.Print(x.n)
		expect(t, "Print: "+x.what, text, err, "", x.err)
	}
}

// overlap tells by their sides whether two triangles have an area in common.
func overlap(l []api.MeshPoint, s, t [3]int) bool {
	apart := func(s, t [3]int) bool {
		for _, e := range directed(s) {
			if !slices.ContainsFunc(t[:], func(p int) bool { return turnOf(l[e[0]], l[e[1]], l[p]) > 0 }) {
				return true
			}
		}
		return false
	}
	return !apart(s, t) && !apart(t, s)
}

// areaOf gives the double area of a triangle.
func areaOf(a, b, c api.MeshPoint) int {
	return (b.X-a.X)*(c.Y-a.Y) - (b.Y-a.Y)*(c.X-a.X)
}

// netError goes by the definitions: all triangles are counterclockwise and ascend.
func netError(t *testing.T, n api.MeshNet) (int, api.Errno) {
	t.Helper()
	covered := 0
	used := map[int]bool{}
	for i, s := range n.Triangles {
		for _, earlier := range n.Triangles[:i] {
			for _, e := range directed(s) {
				if sides := directed(earlier); slices.Contains(sides[:], e) {
					return i, api.ErrDouble
				}
			}
		}
		for _, p := range s {
			used[p] = true
		}
		covered += areaOf(n.Points[s[0]], n.Points[s[1]], n.Points[s[2]])
	}
	hull, err := mesh.Hull(n.Points)
	expectError(t, "Hull", err, api.OK)
	whole := 0
	for k := range hull {
		whole += areaOf(n.Points[hull[0]], n.Points[hull[k]], n.Points[hull[(k+1)%len(hull)]])
	}
	onBorder := func(e [2]int) bool {
		for k := range hull {
			a, b := n.Points[hull[k]], n.Points[hull[(k+1)%len(hull)]]
			if turnOf(a, b, n.Points[e[0]]) == 0 && turnOf(a, b, n.Points[e[1]]) == 0 {
				return true
			}
		}
		return false
	}
	for _, e := range edgesOf(n) {
		if (leftOf(n, e) < 0 || leftOf(n, [2]int{e[1], e[0]}) < 0) && !onBorder(e) {
			return 0, api.ErrOpen
		}
	}
	if covered != whole || len(used) != len(n.Points) {
		return 0, api.ErrGap
	}
	return 0, api.OK
}

// P6.3: of each set of triangles of five points it is told whether they are a net.
func TestCheckNetByDefinition(t *testing.T) {
	counts := map[api.Errno]int{}
	for _, l := range [][]api.MeshPoint{
		kite().Points,
		points(0, 0, 4, 0, 4, 4, 0, 4, 2, 2),
		points(0, 0, 2, 0, 4, 0, 0, 4, 1, 1),
		points(2, 0, 0, 0, 4, 0, 6, 0, 3, 1),
		points(0, 0, 3, -1, 5, 2, 2, 5, -1, 3),
		points(0, 0, 9, 0, 0, 9, 2, 1, 1, 2),
		points(0, 0, 2, 0, 0, 2, 1, 1, 5, 5),
	} {
		var all [][3]int
		for a := range 5 {
			for b := a + 1; b < 5; b++ {
				for c := a + 1; c < 5; c++ {
					if turnOf(l[a], l[b], l[c]) > 0 {
						all = append(all, [3]int{a, b, c})
					}
				}
			}
		}
		for set := range 1 << len(all) {
			n := net(l)
			for i, s := range all {
				if set>>i&1 == 1 {
					n.Triangles = append(n.Triangles, s)
				}
			}
			number, want := netError(t, n)
			got, err := mesh.CheckNet(n)
			expect(t, "CheckNet by its definition", got, err, number, want)
			counts[err]++
			for i, s := range n.Triangles {
				for _, other := range n.Triangles[:i] {
					if err == api.OK && overlap(l, s, other) {
						t.Errorf("%v and %v overlap", s, other)
					}
				}
			}
		}
	}
	for _, err := range []api.Errno{api.OK, api.ErrDouble, api.ErrOpen, api.ErrGap} {
		if counts[err] < 5 {
			t.Errorf("the error %d is there %d times only", err, counts[err])
		}
	}
}

// P6.3: without one of its triangles no net is right.
func TestHolesInNets(t *testing.T) {
	numbers := source(6)
	for range 20 {
		whole := numbers.net(t, 25, 6)
		for i := range whole.Triangles {
			n := copyOfNet(whole)
			n.Triangles = slices.Delete(n.Triangles, i, i+1)
			number, want := netError(t, n)
			got, err := mesh.CheckNet(n)
			expect(t, "a net with a hole", got, err, number, want)
			if err == api.OK {
				t.Error("a net with a hole is right")
			}
		}
	}
}

// P6.3
func TestEdgesAndSides(t *testing.T) {
	edges, err := mesh.Edges(kite())
	expect(t, "the edges of the example", edges, err, [][2]int{{0, 1}, {0, 3}, {0, 4}, {1, 2}, {1, 4}, {2, 3}, {2, 4}, {3, 4}}, api.OK)
	sides, err := mesh.Sides(kite())
	expect(t, "the sides of the example", sides, err, [][2]int{{0, -1}, {-1, 1}, {1, 0}, {2, -1}, {0, 2}, {3, -1}, {2, 3}, {3, 1}}, api.OK)
	numbers := source(7)
	for range 30 {
		n := numbers.net(t, numbers.from(4, 30), 8)
		before := copyOfNet(n)
		want := edgesOf(n)
		edges, err := mesh.Edges(n)
		expect(t, "Edges", edges, err, want, api.OK)
		var wantSides [][2]int
		for _, e := range want {
			wantSides = append(wantSides, [2]int{leftOf(n, e), leftOf(n, [2]int{e[1], e[0]})})
		}
		sides, err := mesh.Sides(n)
		expect(t, "Sides", sides, err, wantSides, api.OK)
		expect(t, "the net behind Sides", n, api.OK, before, api.OK)
	}
}

// joined gives the least point that kept edges join a point with.
func joined(edges [][2]int, kept []bool, from int) int {
	reached := []int{from}
	for i := 0; i < len(reached); i++ {
		for number, e := range edges {
			for _, way := range [2][2]int{e, {e[1], e[0]}} {
				if kept[number] && way[0] == reached[i] && !slices.Contains(reached, way[1]) {
					reached = append(reached, way[1])
				}
			}
		}
	}
	return slices.Min(reached)
}

// P6.3
func TestComponents(t *testing.T) {
	for _, x := range []struct {
		what string
		kept []bool
		want []int
		err  api.Errno
	}{
		{"no edges", make([]bool, 8), []int{0, 1, 2, 3, 4}, api.OK},
		{"all edges", slices.Repeat([]bool{true}, 8), []int{0, 0, 0, 0, 0}, api.OK},
		{"one edge", []bool{false, false, false, false, false, true, false, false}, []int{0, 1, 2, 2, 4}, api.OK},
		{"two edges", []bool{true, false, false, false, false, false, false, true}, []int{0, 0, 2, 3, 3}, api.OK},
		{"a way around", []bool{false, true, false, true, false, true, false, false}, []int{0, 0, 0, 0, 4}, api.OK},
		{"too few", make([]bool, 7), nil, api.ErrShape},
		{"too many", make([]bool, 9), nil, api.ErrShape},
		{"none", nil, nil, api.ErrShape},
	} {
		before := slices.Clone(x.kept)
		got, err := mesh.Components(kite(), x.kept)
		expect(t, x.what, got, err, x.want, x.err)
		expect(t, "the kept edges behind Components", x.kept, api.OK, before, api.OK)
	}
	numbers := source(8)
	for range 60 {
		n := numbers.net(t, numbers.from(4, 30), 9)
		edges := edgesOf(n)
		kept := make([]bool, len(edges))
		for e := range kept {
			kept[e] = numbers.below(4) == 0
		}
		var want []int
		for p := range n.Points {
			want = append(want, joined(edges, kept, p))
		}
		got, err := mesh.Components(n, kept)
		expect(t, "Components", got, err, want, api.OK)
	}
}

// P6.3
func TestOwnMemoryOfNets(t *testing.T) {
	n := kite()
	edges, _ := mesh.Edges(n)
	sides, _ := mesh.Sides(n)
	triangles, _ := mesh.Triangulate(n.Points)
	hull, _ := mesh.Hull(n.Points)
	clear(edges)
	clear(sides)
	clear(triangles)
	clear(hull)
	expect(t, "the net behind its results", n, api.OK, kite(), api.OK)
	again, err := mesh.Hull(n.Points)
	expect(t, "another hull", again, err, []int{0, 1, 2, 3}, api.OK)
}
