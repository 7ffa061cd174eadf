package series_test

import (
	"math"
	"math/big"
	"testing"

	"swath/api"
	"swath/series"
)

func sight(up, east, lo, hi int) api.TrackSight {
	return api.TrackSight{Up: up, East: east, Moved: span(lo, hi)}
}

func tracks(first, second api.TrackSight) api.TwoTracks {
	return api.TwoTracks{First: first, Second: second}
}

func exampleTracks() api.TwoTracks {
	return tracks(sight(800, 600, 10, 10), sight(800, -600, 6, 6))
}

// sightFault is a sight with its error.
type sightFault struct {
	what string
	x    api.TrackSight
	err  api.Errno
}

func sightFaults() []sightFault {
	return []sightFault{
		{"too much upwards", sight(1001, 0, 0, 0), api.ErrRange},
		{"too much downwards", sight(-1001, 0, 0, 0), api.ErrRange},
		{"too much to the east", sight(0, 1001, 0, 0), api.ErrRange},
		{"too much to the west", sight(0, -1001, 0, 0), api.ErrRange},
		{"a movement that is too small", sight(0, 0, -1000000001, 0), api.ErrRange},
		{"a movement that is too great", sight(0, 0, 0, 1000000001), api.ErrRange},
		{"a least movement that is too great", sight(0, 0, 1000000001, 1000000000), api.ErrRange},
		{"a greatest movement that is too small", sight(0, 0, -1000000000, -1000000001), api.ErrRange},
		{"numbers without end", sight(math.MinInt, math.MaxInt, math.MinInt, math.MaxInt), api.ErrRange},
		{"the wrong order", sight(800, 600, 6, 5), api.ErrOrder},
		{"the wrong order of great numbers", sight(1000, 1000, 1000000000, -1000000000), api.ErrOrder},
		{"the wrong order, and too much upwards", sight(1001, 0, 6, 5), api.ErrRange},
	}
}

// P8.6
func TestCheckSights(t *testing.T) {
	for _, x := range []api.TwoTracks{
		exampleTracks(),
		{},
		tracks(sight(1000, -1000, -1000000000, 1000000000), sight(-1000, 1000, 1000000000, 1000000000)),
		tracks(sight(0, 0, -1000000000, -1000000000), sight(1, 1, -3, -3)),
	} {
		expectError(t, "two tracks", series.CheckSights(x), api.OK)
	}
	for _, fault := range sightFaults() {
		expectSightError(t, "the first track: "+fault.what, tracks(fault.x, sight(800, -600, 6, 6)), fault.err)
		expectSightError(t, "the second track: "+fault.what, tracks(sight(800, 600, 10, 10), fault.x), fault.err)
		expectSightError(t, "both tracks: "+fault.what, tracks(fault.x, fault.x), fault.err)
		expectSightError(t, "a wrong order ahead of it: "+fault.what, tracks(sight(0, 0, 1, 0), fault.x), api.ErrOrder)
		expectSightError(t, "a wrong number ahead of it: "+fault.what, tracks(sight(0, 1001, 0, 0), fault.x), api.ErrRange)
	}
	expectSightError(t, "a wrong order ahead of a wrong number", tracks(sight(0, 0, 1, 0), sight(1001, 0, 0, 0)), api.ErrOrder)
	expectSightError(t, "a wrong number ahead of a wrong order", tracks(sight(1001, 0, 0, 0), sight(0, 0, 1, 0)), api.ErrRange)
}

func expectSightError(t *testing.T, what string, x api.TwoTracks, want api.Errno) {
	t.Helper()
	expectError(t, what, series.CheckSights(x), want)
	both, err := series.UpAndEast(x)
	expect(t, "UpAndEast: "+what, both, err, [2]api.Frac{}, want)
	box, err := series.UpAndEastBox(x)
	expect(t, "UpAndEastBox: "+what, box, err, [2]api.Range{}, want)
}

// P8.6
func TestUpAndEast(t *testing.T) {
	up, east := sight(1000, 0, 0, 0), sight(0, 1000, 0, 0)
	little := func(lo, hi int) api.TwoTracks { return tracks(sight(1, 0, lo, hi), east) }
	for _, x := range []struct {
		what string
		x    api.TwoTracks
		want [2]api.Frac
		err  api.Errno
	}{
		{"the ninth example", exampleTracks(), [2]api.Frac{whole(10), fraction(10, 3)}, api.OK},
		{"the ninth example with a wider movement", tracks(sight(800, 600, 10, 13), sight(800, -600, 6, 6)), [2]api.Frac{fraction(175, 16), fraction(55, 12)}, api.OK},
		{"the tracks the other way round", tracks(exampleTracks().Second, exampleTracks().First), [2]api.Frac{whole(10), fraction(10, 3)}, api.OK},
		{"no movement", tracks(up, east), [2]api.Frac{whole(0), whole(0)}, api.OK},
		{"the middle of an even number of movements", tracks(sight(1000, 0, 1, 2), sight(0, 1000, -2, -1)), [2]api.Frac{fraction(3, 2), fraction(-3, 2)}, api.OK},
		{"tracks from below", tracks(sight(-500, 0, 1, 2), sight(0, -1000, -2, -1)), [2]api.Frac{whole(-3), fraction(3, 2)}, api.OK},
		{"the greatest movements", tracks(sight(1000, 0, 1000000000, 1000000000), sight(0, 1000, -1000000000, -1000000000)), [2]api.Frac{whole(1000000000), whole(-1000000000)}, api.OK},
		{"10^9", little(1000000, 1000000), [2]api.Frac{whole(1000000000), whole(0)}, api.OK},
		{"-10^9", little(-1000000, -1000000), [2]api.Frac{whole(-1000000000), whole(0)}, api.OK},
		{"more than 10^9", little(1000000, 1000001), [2]api.Frac{}, api.ErrLarge},
		{"less than -10^9", little(-1000001, -1000000), [2]api.Frac{}, api.ErrLarge},
		{"more than 10^9 to the east alone", tracks(up, sight(0, 1, 1000001, 1000001)), [2]api.Frac{}, api.ErrLarge},
		{"a great numerator of a small number", tracks(sight(999, 0, 999999999, 1000000000), east), [2]api.Frac{}, api.ErrLarge},
		{"the same track twice", tracks(sight(800, 600, 10, 10), sight(800, 600, 10, 10)), [2]api.Frac{}, api.ErrRank},
		{"tracks that see opposite movements", tracks(sight(800, 600, 10, 10), sight(-400, -300, 6, 6)), [2]api.Frac{}, api.ErrRank},
		{"a track that sees nothing", tracks(sight(0, 0, 10, 10), sight(800, 600, 6, 6)), [2]api.Frac{}, api.ErrRank},
		{"tracks that see nothing", tracks(sight(0, 0, 10, 10), sight(0, 0, 6, 6)), [2]api.Frac{}, api.ErrRank},
		{"tracks that see only movements upwards", tracks(sight(1, 0, 0, 0), sight(1000, 0, 0, 0)), [2]api.Frac{}, api.ErrRank},
	} {
		got, err := series.UpAndEast(x.x)
		expect(t, x.what, got, err, x.want, x.err)
		if err == api.ErrRank {
			box, err := series.UpAndEastBox(x.x)
			expect(t, "UpAndEastBox: "+x.what, box, err, [2]api.Range{}, api.ErrRank)
		}
	}
}

// P8.6
func TestUpAndEastBox(t *testing.T) {
	for _, x := range []struct {
		what string
		x    api.TwoTracks
		want [2]api.Range
	}{
		{"the ninth example", exampleTracks(), [2]api.Range{span(10, 10), span(3, 4)}},
		{"the ninth example with a wider movement", tracks(sight(800, 600, 10, 13), sight(800, -600, 6, 6)), [2]api.Range{span(10, 12), span(3, 6)}},
		{"the tracks the other way round", tracks(sight(800, -600, 6, 6), sight(800, 600, 10, 13)), [2]api.Range{span(10, 12), span(3, 6)}},
		{"no movement", tracks(sight(3, 1, 0, 0), sight(1, 2, 0, 0)), [2]api.Range{span(0, 0), span(0, 0)}},
		{"each track for itself", tracks(sight(1000, 0, -3, 5), sight(0, 1000, 2, 7)), [2]api.Range{span(-3, 5), span(2, 7)}},
		{"tracks from below", tracks(sight(-500, 0, -3, 5), sight(0, -1000, 2, 7)), [2]api.Range{span(-10, 6), span(-7, -2)}},
		{"more than 10^9", tracks(sight(1, 0, -1000000000, 1000000000), sight(0, 1, -1, 1000000000)), [2]api.Range{span(-1000000000000, 1000000000000), span(-1000, 1000000000000)}},
		{"the greatest numbers", tracks(sight(1000, 999, -1000000000, 1000000000), sight(999, 998, -1000000000, 1000000000)), [2]api.Range{span(-1997000000000000, 1997000000000000), span(-1999000000000000, 1999000000000000)}},
	} {
		got, err := series.UpAndEastBox(x.x)
		expect(t, x.what, got, err, x.want, api.OK)
	}
}

func (s *source) sight(seen, moved, wide int) api.TrackSight {
	lo := s.from(-moved, moved)
	return sight(s.from(-seen, seen), s.from(-seen, seen), lo, min(lo+s.from(0, wide), api.MaxSight))
}

func (s *source) tracks(i int) api.TwoTracks {
	seen, moved, wide := []int{3, 1000}[i%2], []int{20, 1000000, 1000000000}[i/2%3], []int{0, 3, 1000000}[i/6%3]
	return tracks(s.sight(seen, moved, wide), s.sight(seen, moved, wide))
}

// resolved gives the movements upwards and to the east by elimination, if there are only these.
func resolved(x api.TwoTracks, first, second *big.Rat) ([]*big.Rat, bool) {
	l, begins := echelon([][]*big.Rat{
		append(numbersOf(x.First.Up, x.First.East), scaled(first, 1000)),
		append(numbersOf(x.Second.Up, x.Second.East), scaled(second, 1000)),
	}, 2)
	if len(begins) < 2 {
		return nil, false
	}
	return column(l, 2), true
}

// P8.6: up and east are least and greatest where both movements are at an end.
func TestUpAndEastByDefinition(t *testing.T) {
	numbers := source(13)
	seen := map[api.Errno]int{}
	for i := range 3000 {
		x := numbers.tracks(i)
		a, b := x.First.Moved, x.Second.Moved
		got, err := series.UpAndEast(x)
		box, boxErr := series.UpAndEastBox(x)
		middle, ok := resolved(x, big.NewRat(int64(a.Lo+a.Hi), 2), big.NewRat(int64(b.Lo+b.Hi), 2))
		seen[err]++
		if !ok {
			expect(t, "UpAndEast", got, err, [2]api.Frac{}, api.ErrRank)
			expect(t, "UpAndEastBox", box, boxErr, [2]api.Range{}, api.ErrRank)
			continue
		}
		want, wantErr := small(middle)
		expect(t, "UpAndEast", got[:], err, padded(want, 2), wantErr)
		expect(t, "UpAndEastBox", box, boxErr, boxByCorners(x), api.OK)
	}
	if seen[api.OK] < 100 || seen[api.ErrRank] < 100 || seen[api.ErrLarge] < 100 {
		t.Errorf("so many of each error: %v", seen)
	}
}

func boxByCorners(x api.TwoTracks) [2]api.Range {
	var box [2]api.Range
	for i := range box {
		box[i] = span(math.MaxInt, math.MinInt)
	}
	for _, first := range []int{x.First.Moved.Lo, x.First.Moved.Hi} {
		for _, second := range []int{x.Second.Moved.Lo, x.Second.Moved.Hi} {
			l, _ := resolved(x, numbersOf(first)[0], numbersOf(second)[0])
			for i := range box {
				box[i] = span(min(box[i].Lo, down(l[i])), max(box[i].Hi, up(l[i])))
			}
		}
	}
	return box
}
