package stack_test

import (
	"slices"
	"testing"

	"swath/api"
	"swath/stack"
)

// P7.4
func TestTriangles(t *testing.T) {
	for _, x := range []struct {
		what string
		s    api.StackNet
		want [][]api.StackStep
	}{
		{"the example", example(), [][]api.StackStep{walk(step(0, 1), step(1, 1), step(2, -1))}},
		{"no scenes", stackOf(nil), nil},
		{"a ring of four", stackOf(sameDay(4), pair(0, 1), pair(1, 2), pair(2, 3), pair(0, 3)), nil},
		{"other numbers", stackOf(sameDay(4), pair(1, 3), pair(0, 3), pair(0, 1)), [][]api.StackStep{walk(step(2, 1), step(0, 1), step(1, -1))}},
		{"four scenes", stackOf(sameDay(4), allPairs(4)...), [][]api.StackStep{
			walk(step(0, 1), step(3, 1), step(1, -1)),
			walk(step(0, 1), step(4, 1), step(2, -1)),
			walk(step(1, 1), step(5, 1), step(2, -1)),
			walk(step(3, 1), step(5, 1), step(4, -1))}},
	} {
		before := copyOf(x.s)
		got, err := stack.Triangles(x.s)
		expect(t, x.what, got, err, x.want, api.OK)
		expect(t, "the stack behind Triangles", x.s, api.OK, before, api.OK)
	}
}

// P7.4: 14 scenes with all pairs have 364 triangles; a scene with pairs to 9 of them has 36 more.
func TestManyTriangles(t *testing.T) {
	s := stackOf(sameDay(18), allPairs(14)...)
	for first := range 9 {
		s.Pairs = append(s.Pairs, pair(first, 14))
	}
	got, err := stack.Triangles(s)
	expect(t, "400 triangles", len(got), err, 400, api.OK)
	s.Pairs = append(s.Pairs, pair(15, 16), pair(16, 17), pair(15, 17))
	got, err = stack.Triangles(s)
	expect(t, "401 triangles", got, err, nil, api.ErrLarge)
	got, err = stack.Triangles(stackOf(sameDay(20), allPairs(20)...))
	expect(t, "1140 triangles", got, err, nil, api.ErrLarge)
}

// P7.4: by the definition.
func TestAnyTriangles(t *testing.T) {
	source := source(6)
	found := 0
	for range 30 {
		scenes := source.from(3, 20)
		s := source.stack(scenes, source.from(3, 60), 100)
		var want [][]api.StackStep
		for a := range scenes {
			for b := range scenes {
				for c := range scenes {
					ab, bc, ac := slices.Index(s.Pairs, pair(a, b)), slices.Index(s.Pairs, pair(b, c)), slices.Index(s.Pairs, pair(a, c))
					if ab >= 0 && bc >= 0 && ac >= 0 {
						want = append(want, walk(step(ab, 1), step(bc, 1), step(ac, -1)))
					}
				}
			}
		}
		found += len(want)
		got, err := stack.Triangles(s)
		expect(t, "Triangles", got, err, want, api.OK)
		for _, cycle := range got {
			expectError(t, "CheckCycle of a triangle", stack.CheckCycle(s, cycle), api.OK)
		}
	}
	if found < 100 {
		t.Errorf("only %d triangles", found)
	}
}

// P7.4
func TestCheckCycle(t *testing.T) {
	there, back := step(0, 1), step(0, -1)
	for _, x := range []struct {
		what string
		l    []api.StackStep
	}{
		{"the cycle of the example", walk(step(1, 1), step(2, -1), step(0, 1))},
		{"the other way round", walk(step(2, 1), step(1, -1), step(0, -1))},
		{"there and back", walk(there, back)},
		{"back and there", walk(back, there)},
		{"a pair several times", walk(step(3, 1), step(3, -1), step(2, -1), there, step(1, 1), step(3, 1), step(3, -1))},
		{"400 steps", slices.Repeat(walk(there, back), 200)},
	} {
		s, before := example(), slices.Clone(x.l)
		expectError(t, x.what, stack.CheckCycle(s, x.l), api.OK)
		expect(t, "the stack behind CheckCycle", s, api.OK, example(), api.OK)
		expect(t, "the walk behind CheckCycle", x.l, api.OK, before, api.OK)
	}
	for _, x := range walkFaults() {
		expectError(t, x.what, stack.CheckCycle(example(), x.l), x.err)
	}
	expectError(t, "a step on no stack", stack.CheckCycle(stackOf(nil), walk(there)), api.ErrMissing)
	expectError(t, "no steps on no stack", stack.CheckCycle(stackOf(nil), nil), api.ErrShape)
}

// P7.4: all walks of a few steps.
func TestAnyWalks(t *testing.T) {
	var steps []api.StackStep
	for i := range 4 {
		steps = append(steps, step(i, 1), step(i, -1))
	}
	closed := 0
	walks := [][]api.StackStep{nil}
	for range 4 {
		var longer [][]api.StackStep
		for _, l := range walks {
			for _, x := range steps {
				longer = append(longer, append(slices.Clone(l), x))
			}
		}
		walks = longer
		for _, l := range walks {
			ok := isClosed(example(), l)
			expect(t, "a closed walk", stack.CheckCycle(example(), l) == api.OK, api.OK, ok, api.OK)
			if ok {
				closed++
			}
		}
	}
	if closed < 20 {
		t.Errorf("only %d closed walks", closed)
	}
}
