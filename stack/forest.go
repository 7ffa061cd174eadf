package stack

import (
	"cmp"
	"iter"
	"slices"

	"swath/api"
)

// forest is pairs of a graph that close no cycle. As soon as it is grown, each scene has the step that leads towards the least scene of its part.
type forest struct {
	*graph
	has   []bool // by the numbers of pairs
	least []int  // by scenes: the least one that the forest connects with it
	back  []api.StackStep
}

// bare gives a forest without pairs.
func (g *graph) bare() *forest {
	f := &forest{graph: g, has: make([]bool, len(g.Pairs)), back: make([]api.StackStep, len(g.Scenes))}
	for scene := range g.Scenes {
		f.least = append(f.least, scene)
	}
	return f
}

// add puts a pair into the forest, unless it closes a cycle.
func (f *forest) add(pair int) bool {
	if f.connects(pair) {
		return false
	}
	a, b := f.least[f.Pairs[pair].First], f.least[f.Pairs[pair].Second]
	for scene, least := range f.least {
		if least == max(a, b) {
			f.least[scene] = min(a, b)
		}
	}
	f.has[pair] = true
	return true
}

// connects tells whether the forest connects the scenes of a pair.
func (f *forest) connects(pair int) bool {
	return f.least[f.Pairs[pair].First] == f.least[f.Pairs[pair].Second]
}

// grow finds the steps back to the least scenes.
func (f *forest) grow() {
	for scene, least := range f.least {
		if scene == least {
			f.growFrom(scene)
		}
	}
}

func (f *forest) growFrom(scene int) {
	for step, next := range f.stepsFrom(scene) {
		if f.has[step.Pair] && step != f.back[scene] {
			f.back[next] = turned(step)
			f.growFrom(next)
		}
	}
}

// lightest gives the lightest forest: shorter pairs are put in first, and of those of one length the ones with lesser numbers.
func (g *graph) lightest() *forest {
	f := g.bare()
	var pairs []int
	for pair := range g.Pairs {
		pairs = append(pairs, pair)
	}
	slices.SortStableFunc(pairs, func(a, b int) int { return cmp.Compare(g.lengthOf(a), g.lengthOf(b)) })
	for _, pair := range pairs {
		f.add(pair)
	}
	f.grow()
	return f
}

// forestOf gives the forest with some pairs.
func forestOf(s api.StackNet, pairs []int) (*forest, api.Errno) {
	g, err := graphOf(s)
	if err != api.OK {
		return nil, err
	}
	f := g.bare()
	for i, pair := range pairs {
		switch {
		case !g.hasNumber(pair):
			return nil, api.ErrMissing
		case i > 0 && pair <= pairs[i-1]:
			return nil, api.ErrOrder
		case !f.add(pair):
			return nil, api.ErrCycle
		}
	}
	for pair := range g.Pairs {
		if !f.connects(pair) {
			return nil, api.ErrOpen
		}
	}
	f.grow()
	return f, api.OK
}

func (f *forest) pairs() []int {
	return marked(f.has)
}

func (f *forest) length() int {
	sum := 0
	for _, pair := range f.pairs() {
		sum += f.lengthOf(pair)
	}
	return sum
}

// wayBack gives the way from a scene to the least one of its part.
func (f *forest) wayBack(scene int) []api.StackStep {
	var way []api.StackStep
	for scene != f.least[scene] {
		step := f.back[scene]
		way = append(way, step)
		_, scene = f.ends(step)
	}
	return way
}

// way gives the way along the forest from one scene to another one of its part.
func (f *forest) way(from, to int) []api.StackStep {
	there, back := f.wayBack(from), f.wayBack(to)
	for len(there) > 0 && len(back) > 0 && there[len(there)-1] == back[len(back)-1] {
		there, back = there[:len(there)-1], back[:len(back)-1]
	}
	for _, step := range slices.Backward(back) {
		there = append(there, turned(step))
	}
	return there
}

// cycleOf gives the cycle of a pair that is not in the forest.
func (f *forest) cycleOf(pair int) []api.StackStep {
	p := f.Pairs[pair]
	return append([]api.StackStep{{Pair: pair, Sign: 1}}, f.way(p.Second, p.First)...)
}

// cycles yields the cycles of all pairs that are not in the forest.
func (f *forest) cycles() iter.Seq[[]api.StackStep] {
	return func(yield func([]api.StackStep) bool) {
		for pair, has := range f.has {
			if !has && !yield(f.cycleOf(pair)) {
				return
			}
		}
	}
}

// Lightest gives the pairs of the lightest forest, and its length.
func Lightest(s api.StackNet) ([]int, int, api.Errno) {
	g, err := graphOf(s)
	if err != api.OK {
		return nil, 0, err
	}
	f := g.lightest()
	return f.pairs(), f.length(), api.OK
}

// CheckForest gives the length of a forest.
func CheckForest(s api.StackNet, pairs []int) (int, api.Errno) {
	f, err := forestOf(s, pairs)
	if err != api.OK {
		return 0, err
	}
	return f.length(), api.OK
}

// CycleOf gives the cycle of a pair that is not in a forest.
func CycleOf(s api.StackNet, pairs []int, pair int) ([]api.StackStep, api.Errno) {
	f, err := forestOf(s, pairs)
	switch {
	case err != api.OK:
		return nil, err
	case !f.hasNumber(pair):
		return nil, api.ErrMissing
	case f.has[pair]:
		return nil, api.ErrDouble
	}
	return f.cycleOf(pair), api.OK
}

// Cycles gives the cycles of all pairs that are not in a forest.
func Cycles(s api.StackNet, pairs []int) ([][]api.StackStep, api.Errno) {
	f, err := forestOf(s, pairs)
	if err != api.OK {
		return nil, err
	}
	return slices.Collect(f.cycles()), api.OK
}
