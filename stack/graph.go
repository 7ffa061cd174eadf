package stack

import (
	"iter"
	"slices"

	"swath/api"
)

// graph is a right stack with the numbers of its pairs.
type graph struct {
	api.StackNet
	numbers map[api.StackPair]int
}

// connected gives the graph of a right stack, or else the number of its first wrong scene or pair.
func connected(s api.StackNet) (*graph, int, api.Errno) {
	if scene, err := checkScenes(s.Scenes); err != api.OK {
		return nil, scene, err
	}
	if len(s.Pairs) > api.MaxStackPairs {
		return nil, 0, api.ErrLarge
	}
	g := &graph{StackNet: s, numbers: map[api.StackPair]int{}}
	for i, p := range s.Pairs {
		if err := g.checkNextPair(p); err != api.OK {
			return nil, i, err
		}
		g.numbers[p] = i
	}
	return g, 0, api.OK
}

// graphOf gives the graph of a right stack.
func graphOf(s api.StackNet) (*graph, api.Errno) {
	g, _, err := connected(s)
	return g, err
}

// checkNextPair checks a pair behind those that have numbers.
func (g *graph) checkNextPair(p api.StackPair) api.Errno {
	return firstError(
		errorIf(!g.hasScene(p.First) || !g.hasScene(p.Second), api.ErrMissing),
		errorIf(p.First >= p.Second, api.ErrOrder),
		errorIf(g.hasPair(p), api.ErrDouble),
	)
}

func (g *graph) hasScene(scene int) bool {
	return within(scene, 0, len(g.Scenes)-1)
}

func (g *graph) hasPair(p api.StackPair) bool {
	_, ok := g.numbers[p]
	return ok
}

func (g *graph) hasNumber(pair int) bool {
	return within(pair, 0, len(g.Pairs)-1)
}

func (g *graph) lengthOf(pair int) int {
	first, second := g.Scenes[g.Pairs[pair].First], g.Scenes[g.Pairs[pair].Second]
	return size(second.Day-first.Day) + size(second.Baseline-first.Baseline)
}

// ends gives the scenes where a step begins and ends.
func (g *graph) ends(step api.StackStep) (int, int) {
	p := g.Pairs[step.Pair]
	if step.Sign < 0 {
		return p.Second, p.First
	}
	return p.First, p.Second
}

func turned(step api.StackStep) api.StackStep {
	return api.StackStep{Pair: step.Pair, Sign: -step.Sign}
}

// stepsFrom yields the steps from a scene, with the scenes where they end.
func (g *graph) stepsFrom(scene int) iter.Seq2[api.StackStep, int] {
	return func(yield func(api.StackStep, int) bool) {
		for pair := range g.Pairs {
			for _, sign := range [2]int{1, -1} {
				step := api.StackStep{Pair: pair, Sign: sign}
				if from, to := g.ends(step); from == scene && !yield(step, to) {
					return
				}
			}
		}
	}
}

// SmallPairs gives all pairs of scenes that are near to one another by their days and their baselines.
func SmallPairs(l []api.StackScene, days, baseline int) ([]api.StackPair, api.Errno) {
	if _, err := checkScenes(l); err != api.OK {
		return nil, err
	}
	if !within(days, 0, api.MaxDay) || !within(baseline, 0, maxBetween) {
		return nil, api.ErrRange
	}
	var pairs []api.StackPair
	for first, a := range l {
		for i, b := range l[first+1:] {
			if size(b.Day-a.Day) <= days && size(b.Baseline-a.Baseline) <= baseline {
				pairs = append(pairs, api.StackPair{First: first, Second: first + 1 + i})
			}
		}
	}
	if len(pairs) > api.MaxStackPairs {
		return nil, api.ErrLarge
	}
	return pairs, api.OK
}

// Parts gives the number of the part of each scene.
func Parts(s api.StackNet) ([]int, api.Errno) {
	g, err := graphOf(s)
	if err != api.OK {
		return nil, err
	}
	numbers := make([]int, len(s.Scenes))
	count := 0
	for scene, least := range g.lightest().least {
		if scene == least {
			numbers[scene] = count
			count++
		} else {
			numbers[scene] = numbers[least]
		}
	}
	return numbers, api.OK
}

// Bridges gives the numbers of the pairs without which there would be more parts.
func Bridges(s api.StackNet) ([]int, api.Errno) {
	g, err := graphOf(s)
	if err != api.OK {
		return nil, err
	}
	f := g.lightest()
	// Without one of its pairs the forest falls apart; only pairs whose cycles have this pair lead across.
	isBridge := slices.Clone(f.has)
	for cycle := range f.cycles() {
		for _, step := range cycle {
			isBridge[step.Pair] = false
		}
	}
	return marked(isBridge), api.OK
}

// marked gives the numbers of the marks that are set.
func marked(marks []bool) []int {
	var numbers []int
	for number, mark := range marks {
		if mark {
			numbers = append(numbers, number)
		}
	}
	return numbers
}
