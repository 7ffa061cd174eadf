package match_test

import (
	"testing"

	"swath/api"
	"swath/match"
)

// registration is all that Register gives.
type registration struct {
	im     api.RadarImage
	f      api.MatchAffine
	points []api.MatchPoint
}

func registered(p api.MatchPair, t api.MatchTask, kernel int) (registration, api.Errno) {
	im, f, points, err := match.Register(p, t, kernel)
	return registration{im, f, points}, err
}

// P3.5: what Register gives is what the other functions give one after the other.
func TestRegisterBySteps(t *testing.T) {
	numbers := source(10)
	found := 0
	for i := range 60 {
		first := numbers.image(numbers.from(12, 20), numbers.from(12, 20), 100)
		second := moved(first, numbers.from(-2, 2), numbers.from(-2, 2))
		if i%3 == 0 {
			second = numbers.image(numbers.from(12, 20), numbers.from(12, 20), 100)
		}
		p, task := pair(first, second), task(numbers.from(2, 5), numbers.from(2, 5), 4, 3, numbers.below(900), numbers.below(9))
		points, err := match.Offsets(p, task)
		expectError(t, "Offsets", err, api.OK)
		kept, _ := match.Kept(points, task.Tolerance)
		var want registration
		for _, number := range kept {
			want.points = append(want.points, points[number])
		}
		kernel := i % 3
		var wantErr api.Errno
		if want.f, wantErr = match.Fit(want.points); wantErr != api.OK {
			want = registration{}
		} else {
			want.im, _ = match.Resampled(second, resample(kernel, first.Lines, first.Samples, want.f))
			found++
		}
		got, err := registered(p, task, kernel)
		expect(t, "Register", got, err, want, wantErr)
	}
	if found < 30 {
		t.Errorf("only %d of 60 pairs could be registered", found)
	}
}

// P3.5
func TestRegisterErrors(t *testing.T) {
	numbers := source(11)
	im := numbers.image(12, 12, 9)
	p := pair(im, im)
	for _, x := range []struct {
		what   string
		p      api.MatchPair
		t      api.MatchTask
		kernel int
		err    api.Errno
	}{
		{"no kernel", p, task(4, 4, 4, 0, 0, 0), 3, api.ErrKind},
		{"a kernel below 0", p, task(4, 4, 4, 0, 0, 0), -1, api.ErrKind},
		{"no kernel and no points", p, task(4, 4, 0, 0, 0, 0), -1, api.ErrRange},
		{"no kernel and no rank", p, task(4, 4, 64, 0, 0, 0), 3, api.ErrKind},
		{"too many windows and no kernel", p, task(1, 1, 1, 0, 0, 0), 3, api.ErrLarge},
		{"one window", p, task(4, 4, 64, 0, 0, 0), 0, api.ErrRank},
		{"windows on a line", pair(numbers.image(4, 12, 9), im), task(4, 4, 4, 0, 0, 8), 0, api.ErrRank},
		{"no windows", pair(line(1), im), task(4, 4, 4, 0, 0, 0), 0, api.ErrRank},
		{"no points", pair(im, zeros(12, 12)), task(4, 4, 4, 0, 0, 0), 0, api.ErrRank},
	} {
		got, err := registered(x.p, x.t, x.kernel)
		expect(t, x.what, got, err, registration{}, x.err)
	}
}

// P3.5: a point that does not fit is left out, and the image has the size of the first one.
func TestRegisterLeavesOut(t *testing.T) {
	numbers := source(12)
	first := numbers.image(12, 12, 50)
	second := zeros(14, 16)
	for l := range 12 {
		for s := range 12 {
			second.Data[(l+1)*16+s+2] = first.Data[l*12+s]
		}
	}
	for l := range 4 {
		for s := range 4 {
			second.Data[(l+9)*16+s+10] = 0
		}
	}
	for l := range 4 {
		for s := range 4 {
			second.Data[(l+10)*16+s+11] = first.Data[(l+8)*12+s+8]
		}
	}
	p := pair(first, second)
	points, err := match.Offsets(p, task(4, 4, 4, 3, 1000, 0))
	expect(t, "all points", len(points), err, 9, api.OK)
	expect(t, "the last point", points[8], err, scored(10, 10, 2, 3, 1000), api.OK)
	got, err := registered(p, task(4, 4, 4, 3, 1000, 0), api.KernelLinear)
	expect(t, "the points", got.points, err, points[:8], api.OK)
	expect(t, "the shift", got.f, err, whole(1, 2), api.OK)
	expect(t, "the size", [2]int{got.im.Lines, got.im.Samples}, err, [2]int{12, 12}, api.OK)
	got, err = registered(p, task(4, 4, 4, 3, 1000, 1), api.KernelLinear)
	expect(t, "all points with a tolerance", got.points, err, points, api.OK)
}
