package mesh

import (
	"cmp"
	"slices"

	"swath/api"
)

// Turn tells whether three points are counterclockwise (1), clockwise (-1) or on a line (0).
func Turn(a, b, c api.MeshPoint) (int, api.Errno) {
	if err := firstError(checkPlace(a), checkPlace(b), checkPlace(c)); err != api.OK {
		return 0, err
	}
	return cmp.Compare(area(a, b, c), 0), api.OK
}

// area gives the double area of a polygon; it is below 0 if its corners are clockwise.
func area(corners ...api.MeshPoint) int {
	double := 0
	for i, b := range corners {
		a := corners[(i+len(corners)-1)%len(corners)]
		double += a.X*b.Y - a.Y*b.X
	}
	return double
}

// InCircle tells whether a point lies strictly inside the circle through three others (1), on it (0) or outside (-1).
func InCircle(t [3]api.MeshPoint, d api.MeshPoint) (int, api.Errno) {
	err := firstError(checkPlace(t[0]), checkPlace(t[1]), checkPlace(t[2]), checkPlace(d))
	if err != api.OK {
		return 0, err
	}
	if area(t[:]...) == 0 {
		return 0, api.ErrRank
	}
	return inCircle(t, d), api.OK
}

// inCircle lifts the points to a bowl whose bottom is at d: d is inside the circle if it is below the plane through the three others. The numbers are less than 10^18.
func inCircle(t [3]api.MeshPoint, d api.MeshPoint) int {
	volume := 0
	for i, p := range t {
		x, y := p.X-d.X, p.Y-d.Y
		volume += (x*x + y*y) * area(d, t[(i+1)%3], t[(i+2)%3])
	}
	return cmp.Compare(volume, 0) * cmp.Compare(area(t[:]...), 0)
}

// Hull gives the corners of the hull of points, counterclockwise.
func Hull(l []api.MeshPoint) ([]int, api.Errno) {
	if err := checkPoints(l); err != api.OK {
		return nil, err
	}
	corners := hullOf(l)
	if len(corners) == 0 {
		return nil, api.ErrRank
	}
	return corners, api.OK
}

// hullOf gives no corners if there is no area between the points.
func hullOf(points []api.MeshPoint) []int {
	order := ascending(points)
	lower := chain(points, order)
	slices.Reverse(order)
	upper := chain(points, order)
	// Each of the two ends where the other one begins.
	if len(lower)+len(upper)-2 < 3 {
		return nil
	}
	return slices.Concat(lower[:len(lower)-1], upper[:len(upper)-1])
}

// ascending gives the numbers of the points by X, those of the same X by Y.
func ascending(points []api.MeshPoint) []int {
	order := make([]int, len(points))
	for i := range order {
		order[i] = i
	}
	slices.SortFunc(order, func(i, j int) int {
		a, b := points[i], points[j]
		return cmp.Or(cmp.Compare(a.X, b.X), cmp.Compare(a.Y, b.Y))
	})
	return order
}

// chain leaves out of an order the points at which it does not turn to the left.
func chain(points []api.MeshPoint, order []int) []int {
	var kept []int
	for _, next := range order {
		for last := len(kept) - 1; last > 0; last-- {
			if area(points[kept[last-1]], points[kept[last]], points[next]) > 0 {
				break
			}
			kept = kept[:last]
		}
		kept = append(kept, next)
	}
	return kept
}
