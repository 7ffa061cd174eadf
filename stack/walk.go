package stack

import (
	"iter"

	"swath/api"
)

// Triangles gives the walks around all three scenes with pairs between all of them.
func Triangles(s api.StackNet) ([][]api.StackStep, api.Errno) {
	g, err := graphOf(s)
	if err != api.OK {
		return nil, err
	}
	var triangles [][]api.StackStep
	for triangle := range g.triangles() {
		if len(triangles) == api.MaxCycles {
			return nil, api.ErrLarge
		}
		triangles = append(triangles, triangle)
	}
	return triangles, api.OK
}

func (g *graph) triangles() iter.Seq[[]api.StackStep] {
	return func(yield func([]api.StackStep) bool) {
		for a := range g.Scenes {
			for b := a + 1; b < len(g.Scenes); b++ {
				for c := b + 1; c < len(g.Scenes); c++ {
					if triangle, ok := g.triangle(a, b, c); ok && !yield(triangle) {
						return
					}
				}
			}
		}
	}
}

// triangle gives the walk around three scenes that ascend, if there are the pairs.
func (g *graph) triangle(a, b, c int) ([]api.StackStep, bool) {
	there, hasThere := g.numbers[api.StackPair{First: a, Second: b}]
	on, hasOn := g.numbers[api.StackPair{First: b, Second: c}]
	back, hasBack := g.numbers[api.StackPair{First: a, Second: c}]
	if !hasThere || !hasOn || !hasBack {
		return nil, false
	}
	return []api.StackStep{{Pair: there, Sign: 1}, {Pair: on, Sign: 1}, {Pair: back, Sign: -1}}, true
}

// CheckCycle tells whether a walk is closed.
func CheckCycle(s api.StackNet, cycle []api.StackStep) api.Errno {
	g, err := graphOf(s)
	if err != api.OK {
		return err
	}
	return g.checkClosed(cycle)
}

func (g *graph) checkClosed(walk []api.StackStep) api.Errno {
	if len(walk) == 0 {
		return api.ErrShape
	}
	if len(walk) > api.MaxCycles {
		return api.ErrLarge
	}
	for i, step := range walk {
		if err := g.checkNextStep(step, walk[:i]); err != api.OK {
			return err
		}
	}
	return errorIf(!g.isFollowed(walk[len(walk)-1], walk[0]), api.ErrOpen)
}

// checkNextStep checks a step behind earlier ones.
func (g *graph) checkNextStep(step api.StackStep, earlier []api.StackStep) api.Errno {
	if !g.hasNumber(step.Pair) {
		return api.ErrMissing
	}
	if step.Sign != 1 && step.Sign != -1 {
		return api.ErrRange
	}
	return errorIf(len(earlier) > 0 && !g.isFollowed(earlier[len(earlier)-1], step), api.ErrGap)
}

// isFollowed tells whether a step begins where another one ends.
func (g *graph) isFollowed(step, next api.StackStep) bool {
	_, end := g.ends(step)
	begin, _ := g.ends(next)
	return begin == end
}
