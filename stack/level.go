package stack

import "swath/api"

// level is a right task with the lightest forest of its stack, along which phases are summed.
type level struct {
	api.StackTask
	*forest
}

// levelled gives the level of a right task.
func levelled(t api.StackTask) (*level, api.Errno) {
	g, err := graphOf(t.Net)
	if err != api.OK {
		return nil, err
	}
	if len(t.Phases) != len(g.Pairs) || len(t.Weights) != len(g.Pairs) {
		return nil, api.ErrShape
	}
	if err := firstError(checkAll(t.Phases, checkPhase), checkAll(t.Weights, checkWeight)); err != api.OK {
		return nil, err
	}
	return &level{StackTask: t, forest: g.lightest()}, api.OK
}

// sumAlong gives the sum of the phases of pairs along a walk.
func sumAlong(phases []int, walk []api.StackStep) int {
	sum := 0
	for _, step := range walk {
		sum += step.Sign * phases[step.Pair]
	}
	return sum
}

// sums gives the sums of the forest for phases of pairs.
func (f *forest) sums(phases []int) []int {
	var sums []int
	for scene := range f.Scenes {
		sums = append(sums, -sumAlong(phases, f.wayBack(scene)))
	}
	return sums
}

// misses gives the misses of all pairs for phases of pairs.
func (f *forest) misses(phases []int) []int {
	sums := f.sums(phases)
	var misses []int
	for pair, p := range f.Pairs {
		misses = append(misses, phases[pair]-sums[p.Second]+sums[p.First])
	}
	return misses
}

// open gives the pairs that do not close with the forest.
func (f *forest) open(phases []int) []int {
	var open []int
	for pair, miss := range f.misses(phases) {
		if miss != 0 {
			open = append(open, pair)
		}
	}
	return open
}

// Closure gives the closure of a closed walk.
func Closure(t api.StackTask, cycle []api.StackStep) (int, api.Errno) {
	l, err := levelled(t)
	if err != api.OK {
		return 0, err
	}
	if err := l.checkClosed(cycle); err != api.OK {
		return 0, err
	}
	return sumAlong(t.Phases, cycle), api.OK
}

// FirstOpen gives the first cycle of the lightest forest that does not close by whole turns, and its closure.
func FirstOpen(t api.StackTask) ([]api.StackStep, int, api.Errno) {
	l, err := levelled(t)
	if err != api.OK {
		return nil, 0, err
	}
	for cycle := range l.cycles() {
		if closure := sumAlong(t.Phases, cycle); closure%api.PhaseTurn != 0 {
			return cycle, closure, api.OK
		}
	}
	return nil, 0, api.ErrNone
}

// Solved gives the phases of the scenes, or else the pairs that do not close.
func Solved(t api.StackTask, datum int) ([]int, []int, api.Errno) {
	l, err := levelled(t)
	if err != api.OK {
		return nil, nil, err
	}
	if !l.hasScene(datum) {
		return nil, nil, api.ErrMissing
	}
	if open := l.open(t.Phases); len(open) > 0 {
		return nil, open, api.ErrBreak
	}
	return l.solved(datum), nil, api.OK
}

// solved gives the phases of the scenes if all pairs close.
func (l *level) solved(datum int) []int {
	phases := l.sums(l.Phases)
	for scene, least := range l.least {
		if least != l.least[datum] {
			phases[scene] = api.PhaseVoid
		}
	}
	return moved(phases, datum)
}

// Moved gives phases of scenes with another datum.
func Moved(s api.StackNet, phases []int, datum int) ([]int, api.Errno) {
	g, err := graphOf(s)
	if err != api.OK {
		return nil, err
	}
	if err := checkList(phases, len(s.Scenes), checkSolved); err != api.OK {
		return nil, err
	}
	switch {
	case !g.hasScene(datum):
		return nil, api.ErrMissing
	case phases[datum] == api.PhaseVoid:
		return nil, api.ErrVoid
	}
	return moved(phases, datum), api.OK
}

func moved(phases []int, datum int) []int {
	var with []int
	for _, phase := range phases {
		if phase != api.PhaseVoid {
			phase -= phases[datum]
		}
		with = append(with, phase)
	}
	return with
}
