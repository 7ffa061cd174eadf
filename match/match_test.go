package match_test

import (
	"testing"

	"swath/api"
	"swath/match"
)

// P3.1
func TestCheckWindow(t *testing.T) {
	im := zeros(9, 10)
	for _, x := range windowFaults() {
		expectError(t, "a window with "+x.what, match.CheckWindow(im, x.w), x.err)
	}
	for _, w := range []api.MatchWindow{window(0, 0, 1, 1), window(0, 0, 8, 8), window(1, 2, 8, 8), window(8, 9, 1, 1), window(8, 2, 1, 8)} {
		expectError(t, "a window", match.CheckWindow(im, w), api.OK)
	}
	expectError(t, "a window as great as the image", match.CheckWindow(zeros(3, 4), window(0, 0, 3, 4)), api.OK)
	expectError(t, "a window greater than the image", match.CheckWindow(zeros(3, 4), window(0, 0, 4, 4)), api.ErrBreak)
	expectError(t, "a window in the last corner", match.CheckWindow(zeros(64, 64), window(63, 63, 1, 1)), api.OK)
	expectError(t, "a window behind the last corner", match.CheckWindow(zeros(64, 64), window(63, 63, 1, 2)), api.ErrBreak)
}

// P3.1
func TestCut(t *testing.T) {
	im := image(3, 3, 1, 2, 3, 4i, 5i, 6i, 7, 8, 9)
	for _, x := range []struct {
		what string
		w    api.MatchWindow
		want api.RadarImage
		err  api.Errno
	}{
		{"all of it", window(0, 0, 3, 3), im, api.OK},
		{"one sample", window(1, 2, 1, 1), line(6i), api.OK},
		{"a line", window(2, 0, 1, 3), line(7, 8, 9), api.OK},
		{"a column", window(0, 1, 3, 1), image(3, 1, 2, 5i, 8), api.OK},
		{"a corner", window(1, 1, 2, 2), image(2, 2, 5i, 6i, 8, 9), api.OK},
		{"too great", window(0, 0, 4, 9), api.RadarImage{}, api.ErrRange},
		{"outside", window(2, 0, 2, 1), api.RadarImage{}, api.ErrBreak},
	} {
		got, err := match.Cut(im, x.w)
		expect(t, x.what, got, err, x.want, x.err)
	}
	for _, x := range windowFaults() {
		got, err := match.Cut(zeros(9, 10), x.w)
		expect(t, "a window with "+x.what, got, err, api.RadarImage{}, x.err)
	}
}

// P3.1, R3: what is cut is new, and has no -0.
func TestCutIsNew(t *testing.T) {
	im := line(complex(minusZero, 1), complex(2, minusZero), 3)
	before := copyOfImage(im)
	got, err := match.Cut(im, window(0, 0, 1, 3))
	expect(t, "Cut", got, err, line(1i, 2, 3), api.OK)
	expectNoMinusZero(t, "Cut", got.Data...)
	got.Data[0] = 7
	expect(t, "the image behind Cut", im, api.OK, before, api.OK)
}

// P3.1 to P3.5: the errors of images come before all others.
func TestErrorsOfImages(t *testing.T) {
	for _, x := range imageFaults() {
		good := line(1)
		expectError(t, "CheckWindow of "+x.what, match.CheckWindow(x.im, api.MatchWindow{}), x.err)
		cut, err := match.Cut(x.im, api.MatchWindow{})
		expect(t, "Cut of "+x.what, cut, err, api.RadarImage{}, x.err)
		z, err := match.SampleAt(x.im, -1, [2]int{2049, 0})
		expect(t, "SampleAt of "+x.what, z, err, 0, x.err)
		im, err := match.Resampled(x.im, resample(-1, 0, 0, api.MatchAffine{}))
		expect(t, "Resampled of "+x.what, im, err, api.RadarImage{}, x.err)
		for _, p := range []api.MatchPair{pair(x.im, good), pair(good, x.im)} {
			expectErrorsOfPair(t, x.what, p, x.err)
		}
	}
	first, second := line(0.5), line(2048)
	expectErrorsOfPair(t, "both images wrong", pair(first, second), api.ErrWhole)
	expectErrorsOfPair(t, "both images wrong", pair(second, first), api.ErrRange)
}

// expectErrorsOfPair hands a wrong pair to each function, with further arguments that are wrong too.
func expectErrorsOfPair(t *testing.T, what string, p api.MatchPair, want api.Errno) {
	t.Helper()
	score, err := match.Score(p, api.MatchWindow{}, [2]int{9, 9})
	expect(t, "Score: "+what, score, err, [2]int{}, want)
	by, score, err := match.BestOffset(p, window(0, 9, 1, 1), -1)
	expect(t, "BestOffset: "+what, [][2]int{by, score}, err, [][2]int{{}, {}}, want)
	windows, err := match.Windows(p, api.MatchTask{})
	expect(t, "Windows: "+what, windows, err, nil, want)
	points, err := match.Offsets(p, api.MatchTask{})
	expect(t, "Offsets: "+what, points, err, nil, want)
	im, f, points, err := match.Register(p, api.MatchTask{}, -1)
	expect(t, "Register: "+what, im, err, api.RadarImage{}, want)
	expect(t, "Register's shift and points: "+what, points, err, nil, want)
	expect(t, "Register's shift: "+what, f, err, api.MatchAffine{}, want)
}
