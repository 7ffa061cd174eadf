package stack_test

import (
	"math"
	"slices"
	"testing"

	"swath/api"
	"swath/stack"
)

// P7.2
func TestSmallPairs(t *testing.T) {
	for _, x := range []struct {
		what           string
		l              []api.StackScene
		days, baseline int
		want           []api.StackPair
	}{
		{"the example", example().Scenes, 24, 120, []api.StackPair{pair(0, 1), pair(0, 2), pair(1, 3), pair(2, 3)}},
		{"one baseline less", example().Scenes, 24, 99, []api.StackPair{pair(0, 2), pair(1, 3)}},
		{"one day less", example().Scenes, 23, 120, []api.StackPair{pair(0, 1), pair(2, 3)}},
		{"far baselines", example().Scenes, 12, 150, []api.StackPair{pair(0, 1), pair(1, 2), pair(2, 3)}},
		{"the limits", []api.StackScene{scene("a", 100000, 100000), scene("b", 0, -100000)}, 100000, 200000, []api.StackPair{pair(0, 1)}},
		{"days less than the limit", []api.StackScene{scene("a", 100000, 100000), scene("b", 0, -100000)}, 99999, 200000, nil},
		{"baselines less than the limit", []api.StackScene{scene("a", 100000, 100000), scene("b", 0, -100000)}, 100000, 199999, nil},
		{"descending days", days(9, 5, 7), 2, 0, []api.StackPair{pair(0, 2), pair(1, 2)}},
		{"the same day", days(3, 4, 3, 4), 0, 0, []api.StackPair{pair(0, 2), pair(1, 3)}},
		{"one scene", sameDay(1), 100000, 200000, nil},
		{"no scenes", nil, 0, 0, nil},
	} {
		before := slices.Clone(x.l)
		got, err := stack.SmallPairs(x.l, x.days, x.baseline)
		expect(t, x.what, got, err, x.want, api.OK)
		expect(t, "the scenes behind SmallPairs", x.l, api.OK, before, api.OK)
	}
}

// P7.2
func TestErrorsOfSmallPairs(t *testing.T) {
	for _, x := range scenesFaults() {
		got, err := stack.SmallPairs(x.l, -1, -1)
		expect(t, x.what, got, err, nil, x.err)
	}
	for _, x := range []struct {
		what           string
		days, baseline int
	}{
		{"days below 0", -1, 0},
		{"days of 100001", 100001, 0},
		{"a baseline below 0", 0, -1},
		{"a baseline of 200001", 0, 200001},
		{"the greatest days of all", math.MaxInt, 0},
		{"the least days of all", math.MinInt, 0},
		{"the greatest baseline of all", 0, math.MaxInt},
		{"the least baseline of all", 0, math.MinInt},
	} {
		got, err := stack.SmallPairs(sameDay(60), x.days, x.baseline)
		expect(t, x.what, got, err, nil, api.ErrRange)
		got, err = stack.SmallPairs(nil, x.days, x.baseline)
		expect(t, x.what+" of no scenes", got, err, nil, api.ErrRange)
	}
	// 20 scenes of one day have 190 pairs, 5 scenes have 10, and 2 scenes one more.
	l := days(slices.Concat(equal(20, 10), equal(5, 20), []int{30, 40})...)
	got, err := stack.SmallPairs(l, 9, 0)
	expect(t, "200 pairs", len(got), err, 200, api.OK)
	l[26].Day = 30
	got, err = stack.SmallPairs(l, 9, 0)
	expect(t, "201 pairs", got, err, nil, api.ErrLarge)
	got, err = stack.SmallPairs(sameDay(60), 100000, 200000)
	expect(t, "1770 pairs", got, err, nil, api.ErrLarge)
}

// P7.2: by the definition.
func TestAnySmallPairs(t *testing.T) {
	numbers := source(1)
	for range 40 {
		l := numbers.stack(numbers.from(2, 20), 0, 9).Scenes
		days, baseline := numbers.from(0, 9), numbers.from(0, 18)
		var want []api.StackPair
		for _, p := range allPairs(len(l)) {
			a, b := l[p.First], l[p.Second]
			if size(a.Day-b.Day) <= days && size(a.Baseline-b.Baseline) <= baseline {
				want = append(want, p)
			}
		}
		got, err := stack.SmallPairs(l, days, baseline)
		expect(t, "SmallPairs", got, err, want, api.OK)
	}
}

// P7.2
func TestParts(t *testing.T) {
	for _, x := range []struct {
		what string
		s    api.StackNet
		want []int
	}{
		{"the example", example(), []int{0, 0, 0, 0}},
		{"no scenes", stackOf(nil), nil},
		{"no pairs", stackOf(sameDay(4)), []int{0, 1, 2, 3}},
		{"two parts", stackOf(sameDay(5), pair(2, 4), pair(0, 3), pair(1, 3)), []int{0, 0, 1, 0, 1}},
		{"a scene by itself", stackOf(sameDay(5), pair(3, 4), pair(0, 2)), []int{0, 1, 0, 2, 2}},
		{"many pairs", fullStack(), equal(60, 0)},
	} {
		before := copyOf(x.s)
		got, err := stack.Parts(x.s)
		expect(t, x.what, got, err, x.want, api.OK)
		expect(t, "the stack behind Parts", x.s, api.OK, before, api.OK)
	}
}

// P7.2
func TestBridges(t *testing.T) {
	for _, x := range []struct {
		what string
		s    api.StackNet
		want []int
	}{
		{"the example", example(), []int{3}},
		{"no scenes", stackOf(nil), nil},
		{"no pairs", stackOf(sameDay(4)), nil},
		{"a chain", stackOf(sameDay(4), pair(2, 3), pair(0, 1), pair(1, 2)), []int{0, 1, 2}},
		{"a ring", stackOf(sameDay(4), pair(2, 3), pair(0, 1), pair(1, 2), pair(0, 3)), nil},
		{"two triangles and a pair between", stackOf(sameDay(6), pair(0, 1), pair(1, 2), pair(0, 2), pair(2, 3), pair(3, 4), pair(3, 5), pair(4, 5)), []int{3}},
		{"two triangles at one scene", stackOf(sameDay(5), pair(0, 1), pair(1, 2), pair(0, 2), pair(2, 3), pair(2, 4), pair(3, 4)), nil},
		{"many pairs", fullStack(), nil},
	} {
		before := copyOf(x.s)
		got, err := stack.Bridges(x.s)
		expect(t, x.what, got, err, x.want, api.OK)
		expect(t, "the stack behind Bridges", x.s, api.OK, before, api.OK)
	}
}

// P7.2: by the definitions.
func TestAnyPartsAndBridges(t *testing.T) {
	source := source(2)
	bridges, wide := 0, 0
	for range 60 {
		scenes := source.from(1, 60)
		s := source.stack(scenes, min(200, source.below(2*scenes)), 100)
		all := numbers(s)
		want := parts(s, all)
		got, err := stack.Parts(s)
		expect(t, "Parts", got, err, want, api.OK)
		wide += count(want)
		var lost []int
		for _, i := range all {
			if count(parts(s, slices.Delete(slices.Clone(all), i, i+1))) > count(want) {
				lost = append(lost, i)
			}
		}
		got, err = stack.Bridges(s)
		expect(t, "Bridges", got, err, lost, api.OK)
		bridges += len(lost)
	}
	if bridges < 100 || wide < 200 {
		t.Errorf("only %d bridges and %d parts", bridges, wide)
	}
}
