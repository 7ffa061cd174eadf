package mesh

import (
	"slices"

	"swath/api"
)

const outside = -1

// net is a net with what lies at the left of its directed edges.
type net struct {
	api.MeshNet
	left map[[2]int]int
}

// emptyNet is a net whose triangles are still to be put in.
func emptyNet(points []api.MeshPoint) *net {
	return &net{MeshNet: api.MeshNet{Points: points}, left: map[[2]int]int{}}
}

// laid gives a right net, or else the number of its first wrong triangle.
func laid(n api.MeshNet) (*net, int, api.Errno) {
	err := firstError(checkPoints(n.Points), errorIf(len(n.Triangles) > api.MaxMeshTriangles, api.ErrLarge))
	if err != api.OK {
		return nil, 0, err
	}
	m := emptyNet(n.Points)
	for i, t := range n.Triangles {
		if err := m.checkNext(t); err != api.OK {
			return nil, i, err
		}
		m.add(t)
	}
	return m, 0, firstError(errorIf(m.isOpen(), api.ErrOpen), errorIf(m.hasGap(), api.ErrGap))
}

// rightNet gives a right net.
func rightNet(n api.MeshNet) (*net, api.Errno) {
	m, _, err := laid(n)
	return m, err
}

// checkNext checks a triangle behind those that are in the net.
func (n *net) checkNext(t [3]int) api.Errno {
	for _, point := range t {
		if !within(point, 0, len(n.Points)-1) {
			return api.ErrMissing
		}
	}
	count := len(n.Triangles)
	if t[0] >= t[1] || t[0] >= t[2] || count > 0 && compareTriangles(t, n.Triangles[count-1]) <= 0 {
		return api.ErrOrder
	}
	if n.area(t[:]...) <= 0 {
		return api.ErrClash
	}
	for _, e := range directedEdges(t) {
		if n.leftOf(e) != outside {
			return api.ErrDouble
		}
	}
	return api.OK
}

func compareTriangles(a, b [3]int) int {
	return slices.Compare(a[:], b[:])
}

func compareEdges(a, b [2]int) int {
	return slices.Compare(a[:], b[:])
}

func directedEdges(t [3]int) [3][2]int {
	return [3][2]int{{t[0], t[1]}, {t[1], t[2]}, {t[2], t[0]}}
}

func opposite(e [2]int) [2]int {
	return [2]int{e[1], e[0]}
}

// area gives the double area of the polygon with some points as its corners.
func (n *net) area(corners ...int) int {
	return area(n.places(corners)...)
}

func (n *net) places(points []int) []api.MeshPoint {
	var places []api.MeshPoint
	for _, point := range points {
		places = append(places, n.Points[point])
	}
	return places
}

func (n *net) add(t [3]int) {
	n.Triangles = append(n.Triangles, t)
	n.put(len(n.Triangles)-1, t)
}

// put makes a triangle the one with a number.
func (n *net) put(number int, t [3]int) {
	n.Triangles[number] = t
	for _, e := range directedEdges(t) {
		n.left[e] = number
	}
}

func (n *net) leftOf(e [2]int) int {
	if number, ok := n.left[e]; ok {
		return number
	}
	return outside
}

// border gives the directed edges that have the outside at their right.
func (n *net) border() [][2]int {
	var border [][2]int
	for _, t := range n.Triangles {
		for _, e := range directedEdges(t) {
			if n.leftOf(opposite(e)) == outside {
				border = append(border, e)
			}
		}
	}
	return border
}

// isOpen tells whether there are points at the right of the border: there its edge is inside the hull.
func (n *net) isOpen() bool {
	for _, e := range n.border() {
		for point := range n.Points {
			if n.area(e[0], e[1], point) < 0 {
				return true
			}
		}
	}
	return false
}

func (n *net) hasGap() bool {
	covered := 0
	used := make([]bool, len(n.Points))
	for _, t := range n.Triangles {
		covered += n.area(t[:]...)
		for _, point := range t {
			used[point] = true
		}
	}
	return len(n.Triangles) == 0 || covered != n.area(hullOf(n.Points)...) || slices.Contains(used, false)
}

// edges gives all edges, ascending.
func (n *net) edges() [][2]int {
	var edges [][2]int
	for e := range n.left {
		if e[0] < e[1] || n.leftOf(opposite(e)) == outside {
			edges = append(edges, [2]int{min(e[0], e[1]), max(e[0], e[1])})
		}
	}
	slices.SortFunc(edges, compareEdges)
	return edges
}

// sides gives for each edge what lies at its left and at its right.
func (n *net) sides() [][2]int {
	var sides [][2]int
	for _, e := range n.edges() {
		sides = append(sides, [2]int{n.leftOf(e), n.leftOf(opposite(e))})
	}
	return sides
}

// Edges gives the edges of a net as their points.
func Edges(n api.MeshNet) ([][2]int, api.Errno) {
	m, err := rightNet(n)
	if err != api.OK {
		return nil, err
	}
	return m.edges(), api.OK
}

// Sides gives the triangles at the left and at the right of each edge.
func Sides(n api.MeshNet) ([][2]int, api.Errno) {
	m, err := rightNet(n)
	if err != api.OK {
		return nil, err
	}
	return m.sides(), api.OK
}

// Components gives for each point the least point that kept edges join it with.
func Components(n api.MeshNet, kept []bool) ([]int, api.Errno) {
	m, err := rightNet(n)
	if err != api.OK {
		return nil, err
	}
	edges := m.edges()
	if len(kept) != len(edges) {
		return nil, api.ErrShape
	}
	least := make([]int, len(n.Points))
	for point := range least {
		least[point] = point
	}
	for changed := true; changed; {
		changed = false
		for number, e := range edges {
			if kept[number] && least[e[0]] != least[e[1]] {
				less := min(least[e[0]], least[e[1]])
				least[e[0]], least[e[1]] = less, less
				changed = true
			}
		}
	}
	return least, api.OK
}
