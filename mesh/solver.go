package mesh

import "math"

// outsideNode is the node of the outside; that of a triangle is its number and 1.
const outsideNode = outside + 1

// unreached is the length of a way that is not known yet.
const unreached = math.MaxInt

// solver is a sheet with turns. A turn more at an edge is a turn that goes from what lies at its right to what lies at its left; so it opens the one and closes the other, or the other way round.
type solver struct {
	sheet
	costs, turns []int
	arcs         []arc
}

// arc is an edge that a turn crosses from one node to another: to the left (sign 1) or to the right (sign -1).
type arc struct{ edge, from, to, sign int }

// solved gives a solver with right turns of least cost.
func solved(s sheet, costs []int) *solver {
	v := &solver{sheet: s, costs: costs, turns: make([]int, len(s.edges))}
	for e, side := range s.sides {
		left, right := side[0]+1, side[1]+1
		v.arcs = append(v.arcs, arc{e, right, left, 1}, arc{e, left, right, -1})
	}
	// After each turn that goes a shortest way, no turns cost less that sum up to the same around all triangles. As the closures are 1 in size, and there are less than MaxMeshTurns triangles, no edge gets too many.
	for triangle, closure := range s.closures {
		switch {
		case closure < 0:
			v.send(outsideNode, triangle+1)
		case closure > 0:
			v.send(triangle+1, outsideNode)
		}
	}
	return v
}

// length tells by how much the cost grows with a turn along an arc.
func (v *solver) length(a arc) int {
	if a.sign*v.turns[a.edge] < 0 {
		return -v.costs[a.edge]
	}
	return v.costs[a.edge]
}

// send sends a turn along a shortest way.
func (v *solver) send(from, to int) {
	_, last := v.ways(from)
	for node := to; node != from; {
		a := last[node]
		v.turns[a.edge] += a.sign
		node = a.from
	}
}

// ways gives the lengths of the shortest ways from a node to all nodes, and the last arc of each. No circle has a length below 0, or the turns would cost less with it; so this ends.
func (v *solver) ways(from int) ([]int, []arc) {
	nodes := len(v.Triangles) + 1
	lengths, last := make([]int, nodes), make([]arc, nodes)
	for node := range lengths {
		lengths[node] = unreached
	}
	lengths[from] = 0
	for changed := true; changed; {
		changed = false
		for _, a := range v.arcs {
			if lengths[a.from] == unreached {
				continue
			}
			if length := lengths[a.from] + v.length(a); length < lengths[a.to] {
				lengths[a.to], last[a.to] = length, a
				changed = true
			}
		}
	}
	return lengths, last
}

// potentials gives the potentials of all nodes that prove that the turns cost the least: at an edge without turns they differ by at most its cost, at one with turns by just this cost.
func (v *solver) potentials() []int {
	lengths, _ := v.ways(outsideNode)
	return lengths
}

// tightArcs gives the arcs that turns of least cost may have besides: the potentials grow along them by their lengths.
func (v *solver) tightArcs() []arc {
	potentials := v.potentials()
	var tight []arc
	for _, a := range v.arcs {
		if potentials[a.to]-potentials[a.from] == v.length(a) {
			tight = append(tight, a)
		}
	}
	return tight
}

// isOnCircle tells whether arcs lead from the end of one of them to its beginning without its edge: a turn along this circle costs nothing.
func (v *solver) isOnCircle(a arc, arcs []arc) bool {
	reached := make([]bool, len(v.Triangles)+1)
	reached[a.to] = true
	for changed := true; changed; {
		changed = false
		for _, other := range arcs {
			if other.edge != a.edge && reached[other.from] && !reached[other.to] {
				reached[other.to] = true
				changed = true
			}
		}
	}
	return reached[a.from]
}
