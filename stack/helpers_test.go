package stack_test

import (
	"math"
	"reflect"
	"slices"
	"strconv"
	"testing"

	"swath/api"
)

const void = api.PhaseVoid

// expect compares a value with its error code; a nil slice and an empty one are the same.
func expect[T any](t *testing.T, what string, got T, err api.Errno, want T, wantErr api.Errno) {
	t.Helper()
	g, w := reflect.ValueOf(&got).Elem(), reflect.ValueOf(&want).Elem()
	empty := g.Kind() == reflect.Slice && g.Len() == 0 && w.Len() == 0
	if !empty && !reflect.DeepEqual(got, want) || err != wantErr {
		t.Errorf("%s: %v, error %d; want %v, error %d", what, got, err, want, wantErr)
	}
}

func expectError(t *testing.T, what string, err, want api.Errno) {
	t.Helper()
	if err != want {
		t.Errorf("%s: error %d, want %d", what, err, want)
	}
}

func scene(name string, day, baseline int) api.StackScene {
	return api.StackScene{Name: name, Day: day, Baseline: baseline}
}

// days gives scenes with different names on some days, and without baselines.
func days(l ...int) []api.StackScene {
	var scenes []api.StackScene
	for i, day := range l {
		scenes = append(scenes, scene("s"+strconv.Itoa(i), day, 0))
	}
	return scenes
}

// sameDay gives so many scenes of one day.
func sameDay(count int) []api.StackScene { return days(make([]int, count)...) }

func pair(first, second int) api.StackPair { return api.StackPair{First: first, Second: second} }

// allPairs gives the pairs of so many scenes.
func allPairs(scenes int) []api.StackPair {
	var pairs []api.StackPair
	for first := range scenes {
		for second := first + 1; second < scenes; second++ {
			pairs = append(pairs, pair(first, second))
		}
	}
	return pairs
}

func stackOf(scenes []api.StackScene, pairs ...api.StackPair) api.StackNet {
	return api.StackNet{Scenes: scenes, Pairs: pairs}
}

func step(pair, sign int) api.StackStep { return api.StackStep{Pair: pair, Sign: sign} }

func walk(steps ...api.StackStep) []api.StackStep { return steps }

func task(s api.StackNet, phases, weights []int) api.StackTask {
	return api.StackTask{Net: s, Phases: phases, Weights: weights}
}

// example is the stack of the chapter's examples.
func example() api.StackNet {
	scenes := []api.StackScene{scene("a", 0, 0), scene("b", 12, 100), scene("c", 24, -50), scene("d", 36, 50)}
	return stackOf(scenes, pair(0, 1), pair(1, 2), pair(0, 2), pair(2, 3))
}

// exampleTask is the task of the second example, with four weights.
func exampleTask(weights ...int) api.StackTask {
	return task(example(), []int{1000, 500, 5596, -300}, weights)
}

// fullStack has as many scenes and pairs as there may be.
func fullStack() api.StackNet {
	return stackOf(sameDay(60), allPairs(60)[:200]...)
}

func equal(count, n int) []int { return slices.Repeat([]int{n}, count) }

func size(n int) int { return max(n, -n) }

func copyOf(s api.StackNet) api.StackNet {
	return stackOf(slices.Clone(s.Scenes), slices.Clone(s.Pairs)...)
}

func copyOfTask(t api.StackTask) api.StackTask {
	return task(copyOf(t.Net), slices.Clone(t.Phases), slices.Clone(t.Weights))
}

// source gives the same numbers in each run.
type source int

func (s *source) below(n int) int {
	*s = (*s*1103515245 + 12345) % 2147483648
	return int(*s) / 8 % n
}

func (s *source) from(lo, hi int) int { return lo + s.below(hi-lo+1) }

func (s *source) numbers(count, lo, hi int) []int {
	var l []int
	for range count {
		l = append(l, s.from(lo, hi))
	}
	return l
}

// stack gives a stack with at most so many pairs, in any order, whose days and baselines are at most so great.
func (s *source) stack(scenes, pairs, most int) api.StackNet {
	n := stackOf(days(s.numbers(scenes, 0, most)...))
	for i := range n.Scenes {
		n.Scenes[i].Baseline = s.from(-most, most)
	}
	all := allPairs(scenes)
	for len(n.Pairs) < pairs && len(all) > 0 {
		at := s.below(len(all))
		n.Pairs = append(n.Pairs, all[at])
		all = slices.Delete(all, at, at+1)
	}
	return n
}

// task gives a task in which all closures are whole turns, and turns that close it: the phases are those of scenes and these turns; one pair of four has the weight 0 if zeros are asked for.
func (s *source) task(n api.StackNet, turns, weight int, zeros bool) (api.StackTask, []int) {
	t := task(n, nil, s.numbers(len(n.Pairs), 1, weight))
	phases := s.numbers(len(n.Scenes), -20000, 20000)
	closing := s.numbers(len(n.Pairs), -turns, turns)
	for i, p := range n.Pairs {
		t.Phases = append(t.Phases, phases[p.Second]-phases[p.First]+4096*closing[i])
		if zeros && s.below(4) == 0 {
			t.Weights[i] = 0
		}
	}
	return t, closing
}

// ends gives by the definition where a step begins and ends.
func ends(s api.StackNet, x api.StackStep) (int, int) {
	p := s.Pairs[x.Pair]
	if x.Sign == 1 {
		return p.First, p.Second
	}
	return p.Second, p.First
}

// isClosed is the definition of closed walks.
func isClosed(s api.StackNet, cycle []api.StackStep) bool {
	for i, x := range cycle {
		_, end := ends(s, x)
		if begin, _ := ends(s, cycle[(i+1)%len(cycle)]); begin != end {
			return false
		}
	}
	return len(cycle) > 0
}

// closure is the definition of the closure of a walk.
func closure(phases []int, cycle []api.StackStep) int {
	sum := 0
	for _, x := range cycle {
		sum += x.Sign * phases[x.Pair]
	}
	return sum
}

// wayBetween gives by the definition steps along some pairs from a scene to another one, without a pair twice, and tells whether there are some.
func wayBetween(s api.StackNet, pairs []int, from, to int) ([]api.StackStep, bool) {
	if from == to {
		return nil, true
	}
	for i, pair := range pairs {
		for _, sign := range []int{1, -1} {
			begin, end := ends(s, step(pair, sign))
			if begin != from {
				continue
			}
			if way, ok := wayBetween(s, slices.Delete(slices.Clone(pairs), i, i+1), end, to); ok {
				return append(walk(step(pair, sign)), way...), true
			}
		}
	}
	return nil, false
}

// parts is the definition of the parts that some pairs make: for each scene the number of its part.
func parts(s api.StackNet, pairs []int) []int {
	least := make([]int, len(s.Scenes))
	for i := range least {
		least[i] = i
	}
	for range s.Scenes {
		for _, i := range pairs {
			p := s.Pairs[i]
			least[p.First] = min(least[p.First], least[p.Second])
			least[p.Second] = least[p.First]
		}
	}
	firsts := slices.Compact(slices.Sorted(slices.Values(least)))
	for i := range least {
		least[i] = slices.Index(firsts, least[i])
	}
	return least
}

// count gives how many parts there are.
func count(parts []int) int {
	if len(parts) == 0 {
		return 0
	}
	return slices.Max(parts) + 1
}

// numbers gives the numbers of all pairs.
func numbers(s api.StackNet) []int {
	var l []int
	for i := range s.Pairs {
		l = append(l, i)
	}
	return l
}

// isForest is the definition of a forest: as many parts as the stack has, and more parts without any of its pairs.
func isForest(s api.StackNet, pairs []int) bool {
	all := count(parts(s, numbers(s)))
	return count(parts(s, pairs)) == all && len(pairs) == len(s.Scenes)-all
}

// length is the definition of the length of pairs.
func length(s api.StackNet, pairs []int) int {
	sum := 0
	for _, i := range pairs {
		a, b := s.Scenes[s.Pairs[i].First], s.Scenes[s.Pairs[i].Second]
		sum += size(a.Day-b.Day) + size(a.Baseline-b.Baseline)
	}
	return sum
}

// lists gives all lists of numbers below n, ascending.
func lists(n int) [][]int {
	var all [][]int
	for bits := range 1 << n {
		var l []int
		for i := range n {
			if bits>>i&1 == 1 {
				l = append(l, i)
			}
		}
		all = append(all, l)
	}
	return all
}

// forest gives a forest with pairs in any order.
func (s *source) forest(n api.StackNet) []int {
	var l []int
	rest := numbers(n)
	for len(rest) > 0 {
		at := s.below(len(rest))
		if with := append(slices.Clone(l), rest[at]); count(parts(n, with)) < count(parts(n, l)) {
			l = with
		}
		rest = slices.Delete(rest, at, at+1)
	}
	slices.Sort(l)
	return l
}

// walk gives a closed walk of some steps and the way back, or none if no pairs lead from the scene.
func (s *source) walk(n api.StackNet, begin, steps int) []api.StackStep {
	var l []api.StackStep
	at := begin
	for range steps {
		var next []api.StackStep
		for i := range n.Pairs {
			for _, sign := range []int{1, -1} {
				if from, _ := ends(n, step(i, sign)); from == at {
					next = append(next, step(i, sign))
				}
			}
		}
		if len(next) == 0 {
			return nil
		}
		x := next[s.below(len(next))]
		l = append(l, x)
		_, at = ends(n, x)
	}
	back, _ := wayBetween(n, s.forest(n), at, begin)
	return append(l, back...)
}

type scenesFault struct {
	what string
	l    []api.StackScene
	at   int
	err  api.Errno
}

// scenesFaults are scenes with errors, beside the number that CheckNet gives.
func scenesFaults() []scenesFault {
	good := scene("a", 0, 0)
	faults := []scenesFault{
		{"61 scenes", sameDay(61), 0, api.ErrLarge},
		{"61 scenes without names", make([]api.StackScene, 61), 0, api.ErrLarge},
		{"60 scenes without names", make([]api.StackScene, 60), 0, api.ErrName},
		{"a name twice", []api.StackScene{good, scene("b", 0, 0), scene("a", 1, 1)}, 2, api.ErrExists},
		{"a wrong name twice", []api.StackScene{good, scene("1", 0, 0), scene("1", 0, 0)}, 1, api.ErrName},
		{"a wrong name and day", []api.StackScene{good, scene("", -1, 0)}, 1, api.ErrName},
		{"a name twice and a wrong day", []api.StackScene{good, scene("a", -1, 0)}, 1, api.ErrExists},
		{"a wrong day ahead of a name twice", []api.StackScene{scene("b", 100001, 0), good, good}, 0, api.ErrRange},
		{"day -1", []api.StackScene{good, scene("b", -1, 0)}, 1, api.ErrRange},
		{"day 100001", []api.StackScene{good, scene("b", 100000, 0), scene("c", 100001, 0)}, 2, api.ErrRange},
		{"the greatest day of all", []api.StackScene{scene("b", math.MaxInt, 0)}, 0, api.ErrRange},
		{"the least day of all", []api.StackScene{scene("b", math.MinInt, 0)}, 0, api.ErrRange},
		{"baseline 100001", []api.StackScene{scene("b", 0, 100000), scene("c", 0, 100001)}, 1, api.ErrRange},
		{"baseline -100001", []api.StackScene{scene("b", 0, -100000), scene("c", 0, -100001)}, 1, api.ErrRange},
		{"the greatest baseline of all", []api.StackScene{scene("b", 0, math.MaxInt)}, 0, api.ErrRange},
		{"the least baseline of all", []api.StackScene{scene("b", 0, math.MinInt)}, 0, api.ErrRange},
	}
	for _, name := range []string{"", "1", "-", "-a", "1a", "a b", " a", "a ", "a_b", "a.", "a\n", "\u00e4", "a\u00e4", "a\x00", "a\xff", "abcdefghijklm", "[", "`", "{", "@", "a/", "a:"} {
		faults = append(faults, scenesFault{"the name " + name, []api.StackScene{good, scene(name, 0, 0)}, 1, api.ErrName})
	}
	return faults
}

type stackFault struct {
	what string
	s    api.StackNet
	at   int
	err  api.Errno
}

// stackFaults are stacks with errors, beside the number that CheckNet gives.
func stackFaults() []stackFault {
	var faults []stackFault
	for _, x := range scenesFaults() {
		faults = append(faults,
			stackFault{x.what, stackOf(x.l), x.at, x.err},
			stackFault{x.what + ", and 201 pairs", stackOf(x.l, make([]api.StackPair, 201)...), x.at, x.err})
	}
	three := sameDay(3)
	good := pair(0, 1)
	return append(faults,
		stackFault{"201 pairs", stackOf(sameDay(60), allPairs(60)[:201]...), 0, api.ErrLarge},
		stackFault{"201 wrong pairs", stackOf(three, slices.Repeat([]api.StackPair{pair(7, 7)}, 201)...), 0, api.ErrLarge},
		stackFault{"200 wrong pairs", stackOf(three, slices.Repeat([]api.StackPair{pair(7, 7)}, 200)...), 0, api.ErrMissing},
		stackFault{"a pair without scenes", stackOf(nil, pair(0, 0)), 0, api.ErrMissing},
		stackFault{"no scene First", stackOf(three, good, pair(3, 1)), 1, api.ErrMissing},
		stackFault{"no scene Second", stackOf(three, good, pair(0, 2), pair(1, 3)), 2, api.ErrMissing},
		stackFault{"First below 0", stackOf(three, pair(-1, 1)), 0, api.ErrMissing},
		stackFault{"Second below 0", stackOf(three, pair(1, -1)), 0, api.ErrMissing},
		stackFault{"the greatest Second of all", stackOf(three, pair(1, math.MaxInt)), 0, api.ErrMissing},
		stackFault{"the least First of all", stackOf(three, pair(math.MinInt, 1)), 0, api.ErrMissing},
		stackFault{"the same scene that is missing", stackOf(three, pair(3, 3)), 0, api.ErrMissing},
		stackFault{"the same scene", stackOf(three, good, pair(1, 1)), 1, api.ErrOrder},
		stackFault{"the wrong way round", stackOf(three, good, pair(2, 1)), 1, api.ErrOrder},
		stackFault{"a pair the wrong way round, too", stackOf(three, good, pair(1, 0)), 1, api.ErrOrder},
		stackFault{"twice the wrong way round", stackOf(three, pair(1, 0), pair(1, 0)), 0, api.ErrOrder},
		stackFault{"a pair twice", stackOf(three, good, pair(1, 2), good), 2, api.ErrDouble},
		stackFault{"a pair twice ahead of a missing scene", stackOf(three, good, good, pair(0, 3)), 1, api.ErrDouble},
		stackFault{"a missing scene ahead of a pair twice", stackOf(three, good, pair(0, 3), good), 1, api.ErrMissing},
	)
}

type forestFault struct {
	what   string
	forest []int
	err    api.Errno
}

// forestFaults are wrong forests of the stack of the examples.
func forestFaults() []forestFault {
	return []forestFault{
		{"no such pair", []int{0, 4}, api.ErrMissing},
		{"a pair below 0", []int{-1, 0}, api.ErrMissing},
		{"the greatest pair of all", []int{0, math.MaxInt}, api.ErrMissing},
		{"the least pair of all", []int{0, math.MinInt}, api.ErrMissing},
		{"a pair below 0 behind another one", []int{2, -1}, api.ErrMissing},
		{"a pair twice", []int{0, 0}, api.ErrOrder},
		{"a pair that would close a cycle, and does not ascend", []int{0, 2, 1}, api.ErrOrder},
		{"a descending forest", []int{3, 2, 0}, api.ErrOrder},
		{"a pair twice ahead of a missing one", []int{0, 0, 4}, api.ErrOrder},
		{"a cycle", []int{0, 1, 2}, api.ErrCycle},
		{"a cycle ahead of a missing pair", []int{0, 1, 2, 4}, api.ErrCycle},
		{"a missing pair ahead of a cycle", []int{0, 4, 1, 2}, api.ErrMissing},
		{"a cycle and another pair", []int{0, 1, 2, 3}, api.ErrCycle},
		{"nothing", nil, api.ErrOpen},
		{"too few pairs", []int{0, 3}, api.ErrOpen},
		{"a scene is apart", []int{0, 1}, api.ErrOpen},
		{"the first scene is apart", []int{1, 3}, api.ErrOpen},
	}
}

type walkFault struct {
	what string
	l    []api.StackStep
	err  api.Errno
}

// walkFaults are walks on the stack of the examples that are not closed.
func walkFaults() []walkFault {
	there, back := step(0, 1), step(0, -1)
	return []walkFault{
		{"nothing", nil, api.ErrShape},
		{"401 steps", append(slices.Repeat(walk(there, back), 200), there), api.ErrLarge},
		{"402 steps", slices.Repeat(walk(there, back), 201), api.ErrLarge},
		{"401 wrong steps", make([]api.StackStep, 401), api.ErrLarge},
		{"400 wrong steps", make([]api.StackStep, 400), api.ErrRange},
		{"no such pair", walk(there, step(4, -1)), api.ErrMissing},
		{"a pair below 0", walk(step(-1, 1)), api.ErrMissing},
		{"the greatest pair of all", walk(step(math.MaxInt, 1)), api.ErrMissing},
		{"the least pair of all", walk(step(math.MinInt, 1)), api.ErrMissing},
		{"no such pair and a wrong sign", walk(there, step(4, 0)), api.ErrMissing},
		{"the sign 0", walk(there, step(0, 0)), api.ErrRange},
		{"the sign 2", walk(there, step(0, 2)), api.ErrRange},
		{"the sign -2", walk(there, step(0, -2)), api.ErrRange},
		{"the greatest sign of all", walk(step(0, math.MaxInt)), api.ErrRange},
		{"the least sign of all", walk(step(0, math.MinInt)), api.ErrRange},
		{"a wrong sign that leads elsewhere", walk(there, step(3, 5)), api.ErrRange},
		{"a gap", walk(there, step(2, -1), step(2, 1)), api.ErrGap},
		{"the same step twice", walk(there, there, back), api.ErrGap},
		{"a gap ahead of a missing pair", walk(there, step(3, 1), step(4, 1)), api.ErrGap},
		{"a missing pair ahead of a gap", walk(there, step(4, 1), step(3, 1)), api.ErrMissing},
		{"an open walk with a gap at its end", walk(there, step(1, 1), step(0, 1)), api.ErrGap},
		{"one step", walk(there), api.ErrOpen},
		{"one step back", walk(back), api.ErrOpen},
		{"an open walk", walk(there, step(1, 1)), api.ErrOpen},
		{"399 steps", append(slices.Repeat(walk(there, back), 199), there), api.ErrOpen},
		{"a closed walk and a step", walk(there, step(1, 1), step(2, -1), step(2, 1)), api.ErrOpen},
		{"a step and a closed walk", walk(step(3, -1), step(2, -1), there, step(1, 1)), api.ErrOpen},
	}
}

type taskFault struct {
	what string
	t    api.StackTask
	err  api.Errno
}

// taskFaults are tasks with errors.
func taskFaults() []taskFault {
	var faults []taskFault
	for _, x := range stackFaults() {
		faults = append(faults, taskFault{x.what, task(x.s, []int{math.MaxInt}, nil), x.err})
	}
	right := equal(4, 0)
	great := []int{0, 100000000, -100000000, 100000001}
	return append(faults,
		taskFault{"nothing but the stack", task(example(), nil, nil), api.ErrShape},
		taskFault{"no phases", task(example(), nil, right), api.ErrShape},
		taskFault{"no weights", task(example(), great, nil), api.ErrShape},
		taskFault{"too few phases", task(example(), great[:3], equal(4, -1)), api.ErrShape},
		taskFault{"too many phases", task(example(), append(right, math.MaxInt), right), api.ErrShape},
		taskFault{"too few weights", task(example(), great, equal(3, -1)), api.ErrShape},
		taskFault{"too many weights", task(example(), great, equal(5, -1)), api.ErrShape},
		taskFault{"a phase of 10^8 and 1", task(example(), great, equal(4, -1)), api.ErrRange},
		taskFault{"a phase of less than -10^8", task(example(), []int{-100000001, 0, 0, 0}, right), api.ErrRange},
		taskFault{"a void phase", task(example(), []int{0, void, 0, 0}, right), api.ErrRange},
		taskFault{"the greatest phase of all", task(example(), []int{0, 0, math.MaxInt, 0}, right), api.ErrRange},
		taskFault{"the least phase of all", task(example(), []int{0, 0, 0, math.MinInt}, right), api.ErrRange},
		taskFault{"a weight below 0", task(example(), right, []int{0, -1, 0, 0}), api.ErrRange},
		taskFault{"a weight of 1001", task(example(), right, []int{1000, 0, 0, 1001}), api.ErrRange},
		taskFault{"the greatest weight of all", task(example(), right, []int{0, 0, math.MaxInt, 0}), api.ErrRange},
		taskFault{"the least weight of all", task(example(), right, []int{math.MinInt, 0, 0, 0}), api.ErrRange},
		taskFault{"a weight on an empty stack", task(stackOf(nil), nil, []int{1}), api.ErrShape},
	)
}
