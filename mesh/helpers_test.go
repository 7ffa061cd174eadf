package mesh_test

import (
	"math"
	"reflect"
	"slices"
	"testing"

	"swath/api"
	"swath/mesh"
)

// expect compares a value with its error code; a nil slice and an empty one are the same.
func expect[T any](t *testing.T, what string, got T, err api.Errno, want T, wantErr api.Errno) {
	t.Helper()
	g, w := reflect.ValueOf(&got).Elem(), reflect.ValueOf(&want).Elem()
	empty := g.Kind() == reflect.Slice && g.Len() == 0 && w.Len() == 0
	if !empty && !reflect.DeepEqual(got, want) || err != wantErr {
		t.Errorf("%s: %v, error %d; want %v, error %d", what, got, err, want, wantErr)
	}
}

func expectError(t *testing.T, what string, err, want api.Errno) {
	t.Helper()
	if err != want {
		t.Errorf("%s: error %d, want %d", what, err, want)
	}
}

func at(x, y int) api.MeshPoint { return api.MeshPoint{X: x, Y: y} }

// points gives points by their coordinates, X and Y in turn.
func points(numbers ...int) []api.MeshPoint {
	var l []api.MeshPoint
	for i := 0; i < len(numbers); i += 2 {
		l = append(l, at(numbers[i], numbers[i+1]))
	}
	return l
}

func net(l []api.MeshPoint, triangles ...[3]int) api.MeshNet {
	return api.MeshNet{Points: l, Triangles: triangles}
}

func task(n api.MeshNet, phases, costs []int) api.MeshTask {
	return api.MeshTask{Net: n, Phases: phases, Costs: costs}
}

// kite is the net of the first example of the chapter.
func kite() api.MeshNet {
	return net(points(0, 0, 4, 0, 4, 4, 0, 4, 1, 2), [3]int{0, 1, 4}, [3]int{0, 4, 3}, [3]int{1, 2, 4}, [3]int{2, 3, 4})
}

// corner is the net of the fifth example.
func corner() api.MeshNet {
	return net(points(0, 0, 4, 0, 0, 4), [3]int{0, 1, 2})
}

// cornerTask is the task of the fifth example, with three costs.
func cornerTask(a, b, c int) api.MeshTask {
	return task(corner(), []int{0, 1500, -1500}, []int{a, b, c})
}

func equal(count, n int) []int { return slices.Repeat([]int{n}, count) }

func size(n int) int { return max(n, -n) }

// wrapped is the definition of wrapping.
func wrapped(n int) int {
	for n < -2048 {
		n += 4096
	}
	for n > 2047 {
		n -= 4096
	}
	return n
}

// turnOf is the definition of the turn of three points.
func turnOf(a, b, c api.MeshPoint) int {
	switch double := (b.X-a.X)*(c.Y-a.Y) - (b.Y-a.Y)*(c.X-a.X); {
	case double > 0:
		return 1
	case double < 0:
		return -1
	}
	return 0
}

func copyOfNet(n api.MeshNet) api.MeshNet {
	return net(slices.Clone(n.Points), slices.Clone(n.Triangles)...)
}

func copyOfTask(t api.MeshTask) api.MeshTask {
	return task(copyOfNet(t.Net), slices.Clone(t.Phases), slices.Clone(t.Costs))
}

// directed gives the directed edges of a triangle.
func directed(t [3]int) [3][2]int {
	return [3][2]int{{t[0], t[1]}, {t[1], t[2]}, {t[2], t[0]}}
}

// leftOf gives the triangle at the left of a directed edge by the definition, -1 for the outside.
func leftOf(n api.MeshNet, e [2]int) int {
	return slices.IndexFunc(n.Triangles, func(t [3]int) bool {
		sides := directed(t)
		return slices.Contains(sides[:], e)
	})
}

// edgesOf is the definition of the edges of a net.
func edgesOf(n api.MeshNet) [][2]int {
	var edges [][2]int
	for _, t := range n.Triangles {
		for _, e := range directed(t) {
			edges = append(edges, [2]int{min(e[0], e[1]), max(e[0], e[1])})
		}
	}
	slices.SortFunc(edges, func(a, b [2]int) int { return slices.Compare(a[:], b[:]) })
	return slices.Compact(edges)
}

// source gives the same numbers in each run.
type source int

func (s *source) below(n int) int {
	*s = (*s*1103515245 + 12345) % 2147483648
	return int(*s) / 8 % n
}

func (s *source) from(lo, hi int) int { return lo + s.below(hi-lo+1) }

func (s *source) numbers(count, lo, hi int) []int {
	var l []int
	for range count {
		l = append(l, s.from(lo, hi))
	}
	return l
}

// points gives points that do not all lie on a line, with coordinates of at most so much.
func (s *source) points(count, most int) []api.MeshPoint {
	for {
		var l []api.MeshPoint
		for len(l) < count {
			if p := at(s.from(-most, most), s.from(-most, most)); !slices.Contains(l, p) {
				l = append(l, p)
			}
		}
		if slices.ContainsFunc(l, func(p api.MeshPoint) bool { return turnOf(l[0], l[1], p) != 0 }) {
			return l
		}
	}
}

// net gives a right net that is mostly not legal: edges of one that is are turned at random.
func (s *source) net(t *testing.T, count, most int) api.MeshNet {
	t.Helper()
	n := net(s.points(count, most))
	var err api.Errno
	n.Triangles, err = mesh.Triangulate(n.Points)
	expectError(t, "Triangulate", err, api.OK)
	for range 3 * count {
		edges := edgesOf(n)
		turn(n, edges[s.below(len(edges))])
	}
	return n
}

// turn replaces an edge by the other one of the four corners around it, if they are convex.
func turn(n api.MeshNet, e [2]int) {
	i, j := e[0], e[1]
	left, right := leftOf(n, [2]int{i, j}), leftOf(n, [2]int{j, i})
	if left < 0 || right < 0 {
		return
	}
	far := func(triangle int) int {
		for _, p := range n.Triangles[triangle] {
			if p != i && p != j {
				return p
			}
		}
		return -1
	}
	a, b := far(left), far(right)
	p := n.Points
	if turnOf(p[i], p[b], p[a]) != 1 || turnOf(p[j], p[a], p[b]) != 1 {
		return
	}
	n.Triangles[left], n.Triangles[right] = leastFirst(i, b, a), leastFirst(j, a, b)
	slices.SortFunc(n.Triangles, func(a, b [3]int) int { return slices.Compare(a[:], b[:]) })
}

func leastFirst(a, b, c int) [3]int {
	switch min(a, b, c) {
	case a:
		return [3]int{a, b, c}
	case b:
		return [3]int{b, c, a}
	}
	return [3]int{c, a, b}
}

// task gives a task; one edge of four costs nothing if zeros are asked for.
func (s *source) task(t *testing.T, count, most, cost int, zeros bool) api.MeshTask {
	t.Helper()
	n := s.net(t, count, most)
	costs := s.numbers(len(edgesOf(n)), 1, cost)
	for e := range costs {
		if zeros && s.below(4) == 0 {
			costs[e] = 0
		}
	}
	return task(n, s.numbers(count, -2048, 2047), costs)
}

type pointsFault struct {
	what string
	l    []api.MeshPoint
	at   int
	err  api.Errno
}

// manyPoints gives so many points on two lines.
func manyPoints(count int) []api.MeshPoint {
	var l []api.MeshPoint
	for i := range count {
		l = append(l, at(i, i%2))
	}
	return l
}

// pointsFaults are points with errors, beside the number that CheckPoints gives.
func pointsFaults() []pointsFault {
	return []pointsFault{
		{"41 points", manyPoints(41), 0, api.ErrLarge},
		{"41 points at one place far away", slices.Repeat(points(20000, 0), 41), 0, api.ErrLarge},
		{"X of 10001", points(0, 0, 10001, 0, 0, 4), 1, api.ErrRange},
		{"X of -10001", points(-10001, 0, 4, 0, 0, 4), 0, api.ErrRange},
		{"Y of 10001", points(0, 0, 4, 0, 0, 10001), 2, api.ErrRange},
		{"Y of -10001", points(0, 0, 4, 0, 0, -10001), 2, api.ErrRange},
		{"the greatest number of all", points(0, 0, math.MaxInt, 0, 0, 4), 1, api.ErrRange},
		{"the least number of all", points(0, 0, 4, 0, 0, math.MinInt), 2, api.ErrRange},
		{"the same place", points(0, 0, 4, 0, 0, 4, 4, 0), 3, api.ErrExists},
		{"the same place twice", points(0, 0, 4, 0, 0, 0, 4, 0), 2, api.ErrExists},
		{"two points at one place far away", points(0, 0, 10001, 0, 10001, 0), 1, api.ErrRange},
		{"the same place ahead of one far away", points(0, 0, 0, 0, 10001, 0), 1, api.ErrExists},
	}
}

type netFault struct {
	what string
	n    api.MeshNet
	at   int
	err  api.Errno
}

// netFaults are nets with errors, beside the number that CheckNet gives.
func netFaults() []netFault {
	var faults []netFault
	for _, x := range pointsFaults() {
		faults = append(faults, netFault{x.what, net(x.l, [3]int{0, 1, 2}), 0, x.err})
	}
	good := corner().Points
	square := points(0, 0, 4, 0, 4, 4, 0, 4)
	many := slices.Repeat([][3]int{{0, 1, 99}}, 81)
	whole := [][3]int{{0, 1, 2}}
	inner := points(0, 0, 9, 0, 0, 9, 1, 1)
	return append(faults,
		netFault{"81 wrong triangles", net(good, many...), 0, api.ErrLarge},
		netFault{"81 triangles and a wrong point", net(points(0, 0, 0, 0), many...), 0, api.ErrExists},
		netFault{"80 wrong triangles", net(good, many[:80]...), 0, api.ErrMissing},
		netFault{"no such point", net(good, [3]int{0, 1, 2}, [3]int{0, 1, 3}), 1, api.ErrMissing},
		netFault{"no such first point", net(good, [3]int{3, 1, 2}), 0, api.ErrMissing},
		netFault{"no such second point", net(good, [3]int{0, 3, 2}), 0, api.ErrMissing},
		netFault{"a point below 0", net(good, [3]int{-1, 0, 2}), 0, api.ErrMissing},
		netFault{"the greatest point of all", net(good, [3]int{0, 1, math.MaxInt}), 0, api.ErrMissing},
		netFault{"the least point of all", net(good, [3]int{math.MinInt, 0, 1}), 0, api.ErrMissing},
		netFault{"a triangle without points", net(nil, [3]int{}), 0, api.ErrMissing},
		netFault{"a greater first point", net(good, [3]int{1, 2, 0}), 0, api.ErrOrder},
		netFault{"a first point greater than the second one", net(good, [3]int{1, 0, 2}), 0, api.ErrOrder},
		netFault{"the first point twice", net(good, [3]int{0, 0, 2}), 0, api.ErrOrder},
		netFault{"the first point at the end, too", net(good, [3]int{0, 1, 0}), 0, api.ErrOrder},
		netFault{"the same triangle", net(good, [3]int{0, 1, 2}, [3]int{0, 1, 2}), 1, api.ErrOrder},
		netFault{"a lesser triangle", net(square, [3]int{1, 2, 3}, [3]int{0, 1, 3}), 1, api.ErrOrder},
		netFault{"a lesser last number", net(square, [3]int{0, 1, 3}, [3]int{0, 1, 2}), 1, api.ErrOrder},
		netFault{"a lesser middle number", net(square, [3]int{0, 2, 3}, [3]int{0, 1, 3}), 1, api.ErrOrder},
		netFault{"a lesser triangle that is clockwise", net(square, [3]int{0, 2, 3}, [3]int{0, 2, 1}), 1, api.ErrOrder},
		netFault{"clockwise", net(good, [3]int{0, 2, 1}), 0, api.ErrClash},
		netFault{"the other point twice", net(good, [3]int{0, 1, 1}), 0, api.ErrClash},
		netFault{"on a line", net(points(0, 0, 1, 0, 2, 0, 0, 3), [3]int{0, 1, 2}), 0, api.ErrClash},
		netFault{"clockwise on an edge that is there", net(square, [3]int{0, 1, 2}, [3]int{1, 3, 2}), 1, api.ErrClash},
		netFault{"a directed edge twice", net(square, [3]int{0, 1, 2}, [3]int{0, 1, 3}), 1, api.ErrDouble},
		netFault{"the second directed edge twice", net(square, [3]int{0, 1, 2}, [3]int{0, 2, 3}, [3]int{1, 2, 3}), 2, api.ErrDouble},
		netFault{"the last directed edge twice", net(square, [3]int{0, 1, 3}, [3]int{0, 2, 3}), 1, api.ErrDouble},
		netFault{"a directed edge twice ahead of a missing point", net(square, [3]int{0, 1, 2}, [3]int{0, 1, 3}, [3]int{0, 1, 4}), 1, api.ErrDouble},
		netFault{"half a square", net(square, whole...), 0, api.ErrOpen},
		netFault{"the other half of a square", net(square, [3]int{0, 2, 3}), 0, api.ErrOpen},
		netFault{"a hole", net(inner, [3]int{0, 1, 3}, [3]int{1, 2, 3}), 0, api.ErrOpen},
		netFault{"two triangles that overlap", net(square, [3]int{0, 1, 2}, [3]int{1, 3, 0}), 1, api.ErrOrder},
		netFault{"triangles that overlap", net(square, [3]int{0, 1, 2}, [3]int{0, 2, 3}, [3]int{1, 2, 3}), 2, api.ErrDouble},
		netFault{"overlapping halves", net(points(0, 0, 4, 0, 4, 4, 0, 4, 2, 1), [3]int{0, 1, 2}, [3]int{0, 2, 3}), 0, api.ErrGap},
		netFault{"a border that turns inwards", net(points(0, 0, 4, 0, 2, 1, 2, 5), [3]int{0, 2, 3}, [3]int{1, 3, 2}), 0, api.ErrOpen},
		netFault{"no triangles", net(good), 0, api.ErrGap},
		netFault{"no triangles on a line", net(points(0, 0, 1, 1, 2, 2)), 0, api.ErrGap},
		netFault{"one point", net(points(7, 7)), 0, api.ErrGap},
		netFault{"two points", net(points(7, 7, 8, 8)), 0, api.ErrGap},
		netFault{"nothing", net(nil), 0, api.ErrGap},
		netFault{"a point inside", net(inner, whole...), 0, api.ErrGap},
		netFault{"a point on the border", net(points(0, 0, 4, 0, 0, 4, 2, 2), whole...), 0, api.ErrGap},
		netFault{"a point that an edge leads past", net(points(0, 0, 2, 0, 4, 0, 0, 4), [3]int{0, 2, 3}), 0, api.ErrGap},
	)
}

type phasesFault struct {
	what   string
	phases []int
	err    api.Errno
}

// phasesFaults are wrong phases of three points.
func phasesFaults() []phasesFault {
	return []phasesFault{
		{"no phases", nil, api.ErrShape},
		{"too few phases", []int{0, 5000}, api.ErrShape},
		{"too many phases", []int{0, 0, 0, 5000}, api.ErrShape},
		{"2048", []int{0, 2047, 2048}, api.ErrRange},
		{"-2049", []int{-2049, -2048, 0}, api.ErrRange},
		{"void", []int{0, api.PhaseVoid, 0}, api.ErrRange},
		{"the greatest phase of all", []int{0, math.MaxInt, 0}, api.ErrRange},
		{"the least phase of all", []int{0, 0, math.MinInt}, api.ErrRange},
	}
}

type taskFault struct {
	what string
	t    api.MeshTask
	err  api.Errno
}

// taskFaults are tasks with errors.
func taskFaults() []taskFault {
	var faults []taskFault
	for _, x := range netFaults() {
		faults = append(faults, taskFault{x.what, task(x.n, []int{5000}, []int{-1}), x.err})
	}
	for _, x := range phasesFaults() {
		faults = append(faults, taskFault{x.what, task(corner(), x.phases, []int{-1}), x.err})
	}
	right := []int{0, 0, 0}
	return append(faults,
		taskFault{"no costs", task(corner(), right, nil), api.ErrShape},
		taskFault{"too few costs", task(corner(), right, []int{-1, -1}), api.ErrShape},
		taskFault{"too many costs", task(corner(), right, []int{1, 1, 1, -1}), api.ErrShape},
		taskFault{"a cost below 0", task(corner(), right, []int{0, 1000, -1}), api.ErrRange},
		taskFault{"a cost of 1001", task(corner(), right, []int{1001, 1, 1}), api.ErrRange},
		taskFault{"the greatest cost of all", task(corner(), right, []int{1, math.MaxInt, 1}), api.ErrRange},
		taskFault{"the least cost of all", task(corner(), right, []int{1, 1, math.MinInt}), api.ErrRange},
	)
}
