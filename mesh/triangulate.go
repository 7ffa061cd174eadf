package mesh

import (
	"slices"

	"swath/api"
)

// FirstIllegal gives the first illegal edge of a net.
func FirstIllegal(n api.MeshNet) ([2]int, api.Errno) {
	m, err := rightNet(n)
	if err != api.OK {
		return [2]int{}, err
	}
	e, ok := m.firstIllegal()
	return e, errorIf(!ok, api.ErrNone)
}

func (n *net) firstIllegal() ([2]int, bool) {
	for _, e := range n.edges() {
		if n.isIllegal(e) {
			return e, true
		}
	}
	return [2]int{}, false
}

func (n *net) isIllegal(e [2]int) bool {
	left, right := n.leftOf(e), n.leftOf(opposite(e))
	if left == outside || right == outside {
		return false
	}
	corners := n.places(n.Triangles[left][:])
	return inCircle([3]api.MeshPoint(corners), n.Points[n.far(opposite(e))]) > 0
}

// far gives the corner of the triangle at the left of an edge that is not an end of it.
func (n *net) far(e [2]int) int {
	t := n.Triangles[n.leftOf(e)]
	return t[0] + t[1] + t[2] - e[0] - e[1]
}

// Triangulate gives the triangles of a legal net of points.
func Triangulate(l []api.MeshPoint) ([][3]int, api.Errno) {
	if err := checkPoints(l); err != api.OK {
		return nil, err
	}
	if len(hullOf(l)) == 0 {
		return nil, api.ErrRank
	}
	n := covering(l)
	// An edge that is turned makes the net sag towards the least bowl over the points; so this ends.
	for e, ok := n.firstIllegal(); ok; e, ok = n.firstIllegal() {
		n.turn(e)
	}
	slices.SortFunc(n.Triangles, compareTriangles)
	return n.Triangles, api.OK
}

// covering gives a net of points that may have illegal edges.
func covering(points []api.MeshPoint) *net {
	n := emptyNet(points)
	order := n.outwards()
	n.add(n.oriented([3]int(order[:3])))
	for _, point := range order[3:] {
		n.cover(point)
	}
	return n
}

// outwards gives the points in an order in which each is outside the hull of those before it: ascending, but the first one that is not on a line with the first two is the third one.
func (n *net) outwards() []int {
	order := ascending(n.Points)
	i := 2
	for n.area(order[0], order[1], order[i]) == 0 {
		i++
	}
	third := order[i]
	return slices.Insert(slices.Delete(order, i, i+1), 2, third)
}

// cover adds the triangles of a point outside with the edges of the border that it sees.
func (n *net) cover(point int) {
	for _, e := range n.border() {
		if n.area(e[0], e[1], point) < 0 {
			n.add(n.oriented([3]int{e[0], e[1], point}))
		}
	}
}

// turn puts the other two triangles into the four corners around an edge.
func (n *net) turn(e [2]int) {
	left, right := n.leftOf(e), n.leftOf(opposite(e))
	near, far := n.far(e), n.far(opposite(e))
	delete(n.left, e)
	delete(n.left, opposite(e))
	n.put(left, n.oriented([3]int{e[0], near, far}))
	n.put(right, n.oriented([3]int{e[1], near, far}))
}

// oriented gives a triangle counterclockwise, with its least point first.
func (n *net) oriented(t [3]int) [3]int {
	slices.Sort(t[:])
	if n.area(t[:]...) < 0 {
		t[1], t[2] = t[2], t[1]
	}
	return t
}
