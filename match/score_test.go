package match_test

import (
	"math"
	"math/big"
	"testing"

	"swath/api"
	"swath/match"
)

// P3.1
func TestScore(t *testing.T) {
	first, second := line(1, 2, 3, 4), line(0, 1, 2, 3)
	all := window(0, 0, 1, 1)
	for _, x := range []struct {
		what string
		p    api.MatchPair
		w    api.MatchWindow
		by   [2]int
		want [2]int
		err  api.Errno
	}{
		{"the first example", pair(first, second), window(0, 1, 1, 2), [2]int{}, [2]int{64, 65}, api.OK},
		{"the first example, one sample later", pair(first, second), window(0, 1, 1, 2), [2]int{0, 1}, [2]int{1, 1}, api.OK},
		{"the second example", pair(line(1, 0), line(1i, 0)), window(0, 0, 1, 2), [2]int{}, [2]int{1, 1}, api.OK},
		{"one sample earlier", pair(first, second), window(0, 2, 1, 2), [2]int{0, -1}, [2]int{121, 125}, api.OK},
		{"nothing in common", pair(line(1, 0), line(0, 1)), window(0, 0, 1, 2), [2]int{}, [2]int{0, 1}, api.OK},
		{"parts that cancel", pair(line(1, 1i), line(1, -1i)), window(0, 0, 1, 2), [2]int{}, [2]int{0, 1}, api.OK},
		{"a conjugate", pair(line(1, 1i), line(1, 1i)), window(0, 0, 1, 2), [2]int{}, [2]int{1, 1}, api.OK},
		{"a second image that is greater", pair(line(2), zerosBut(4, 5, 3, 4, 1+1i)), all, [2]int{3, 4}, [2]int{1, 1}, api.OK},
		{"a second image that is less", pair(zerosBut(4, 5, 3, 4, 1+1i), line(2)), window(3, 4, 1, 1), [2]int{-3, -4}, [2]int{1, 1}, api.OK},
		{"lines apart", pair(image(2, 1, 1, 2), image(3, 1, 5, 1, 2)), window(0, 0, 2, 1), [2]int{1, 0}, [2]int{1, 1}, api.OK},
		{"a first window of zeros", pair(line(0, 1), line(1, 1)), all, [2]int{}, [2]int{}, api.ErrZero},
		{"a second window of zeros", pair(line(1, 1), line(1, 0)), all, [2]int{0, 1}, [2]int{}, api.ErrZero},
		{"zeros with signs", pair(line(complex(minusZero, minusZero)), line(1)), all, [2]int{}, [2]int{}, api.ErrZero},
		{"zeros, and no second window", pair(line(0), line(0)), all, [2]int{0, 1}, [2]int{}, api.ErrBreak},
		{"a second window that ends outside", pair(first, second), window(0, 1, 1, 2), [2]int{0, 2}, [2]int{}, api.ErrBreak},
		{"a second window that begins outside", pair(first, second), window(0, 1, 1, 2), [2]int{0, -2}, [2]int{}, api.ErrBreak},
		{"a second window below", pair(first, second), window(0, 1, 1, 2), [2]int{1, 0}, [2]int{}, api.ErrBreak},
		{"a second window above", pair(first, second), window(0, 1, 1, 2), [2]int{-1, 0}, [2]int{}, api.ErrBreak},
		{"a second image that is too small", pair(first, line(1)), window(0, 0, 1, 2), [2]int{}, [2]int{}, api.ErrBreak},
		{"the greatest offset of all", pair(first, second), window(0, 1, 1, 2), [2]int{0, math.MaxInt}, [2]int{}, api.ErrBreak},
		{"the least offset of all", pair(first, second), window(0, 1, 1, 2), [2]int{math.MinInt, math.MinInt}, [2]int{}, api.ErrBreak},
		{"a wrong window and no second one", pair(first, second), window(0, 0, 0, 1), [2]int{0, 9}, [2]int{}, api.ErrRange},
		{"a window outside and no second one", pair(first, second), window(0, 4, 1, 1), [2]int{0, -4}, [2]int{}, api.ErrBreak},
	} {
		got, err := match.Score(x.p, x.w, x.by)
		expect(t, x.what, got, err, x.want, x.err)
	}
	for _, x := range windowFaults() {
		got, err := match.Score(pair(zeros(9, 10), zeros(64, 64)), x.w, [2]int{})
		expect(t, "a window with "+x.what, got, err, [2]int{}, x.err)
	}
}

// zerosBut gives zeros with one other sample.
func zerosBut(lines, samples, atLine, atSample int, z complex64) api.RadarImage {
	im := zeros(lines, samples)
	im.Data[atLine*samples+atSample] = z
	return im
}

// scoreOf is the definition of the score of two windows; nil if there is none.
func scoreOf(p api.MatchPair, w api.MatchWindow, by [2]int) *big.Rat {
	if w.Line+by[0] < 0 || w.Line+by[0]+w.Lines > p.Second.Lines || w.Sample+by[1] < 0 || w.Sample+by[1]+w.Samples > p.Second.Samples {
		return nil
	}
	e, f, real, imag := 0, 0, 0, 0
	for l := w.Line; l < w.Line+w.Lines; l++ {
		for s := w.Sample; s < w.Sample+w.Samples; s++ {
			a, b := partsAt(p.First, l, s)
			c, d := partsAt(p.Second, l+by[0], s+by[1])
			e, f = e+a*a+b*b, f+c*c+d*d
			real, imag = real+a*c+b*d, imag+b*c-a*d
		}
	}
	if e == 0 || f == 0 {
		return nil
	}
	return new(big.Rat).Add(fractionOf(real*real, e*f), fractionOf(imag*imag, e*f))
}

func asPair(r *big.Rat) [2]int {
	return [2]int{int(r.Num().Int64()), int(r.Denom().Int64())}
}

// P3.1: against the definition, up to the greatest samples.
func TestScoreByDefinition(t *testing.T) {
	numbers := source(1)
	for _, size := range []int{1, 3, 100, api.MaxSample} {
		for range 40 {
			p := pair(numbers.image(9, 12, size), numbers.image(numbers.from(1, 14), numbers.from(1, 14), size))
			w := window(numbers.below(2), numbers.below(5), numbers.from(1, 8), numbers.from(1, 8))
			by := [2]int{numbers.from(-4, 4), numbers.from(-4, 4)}
			got, err := match.Score(p, w, by)
			if want := scoreOf(p, w, by); want != nil {
				expect(t, "Score", got, err, asPair(want), api.OK)
			} else if err != api.ErrBreak && err != api.ErrZero {
				t.Errorf("Score: error %d without a score", err)
			}
		}
	}
	greatest := zeros(8, 8)
	for i := range greatest.Data {
		greatest.Data[i] = 2047 - 2047i
	}
	got, err := match.Score(pair(greatest, greatest), window(0, 0, 8, 8), [2]int{})
	expect(t, "the greatest samples", got, err, [2]int{1, 1}, api.OK)
}

// P3.1
func TestBestOffset(t *testing.T) {
	one := line(1)
	all := window(0, 0, 1, 1)
	middle := zerosBut(5, 5, 2, 2, 1)
	ones := image(5, 5)
	for range 25 {
		ones.Data = append(ones.Data, 1)
	}
	center := window(2, 2, 1, 1)
	for _, x := range []struct {
		what      string
		p         api.MatchPair
		w         api.MatchWindow
		reach     int
		by, score [2]int
		err       api.Errno
	}{
		{"the first example", pair(line(1, 2, 3, 4), line(0, 1, 2, 3)), window(0, 1, 1, 2), 1, [2]int{0, 1}, [2]int{1, 1}, api.OK},
		{"no reach", pair(line(1, 2, 3, 4), line(0, 1, 2, 3)), window(0, 1, 1, 2), 0, [2]int{}, [2]int{64, 65}, api.OK},
		{"all alike", pair(middle, ones), center, 2, [2]int{}, [2]int{1, 1}, api.OK},
		{"the nearer one", pair(middle, image(5, 5, 1, 0, 0, 0, 0, 0, 0, 0, 0, 0, 0, 0, 0, 0, 1, 0, 0, 0, 0, 0, 0, 0, 0, 0, 0)), center, 2, [2]int{0, 2}, [2]int{1, 1}, api.OK},
		{"the first one of four", pair(middle, image(5, 5, 0, 0, 0, 0, 0, 0, 0, 1, 0, 0, 0, 1, 0, 1, 0, 0, 0, 1, 0, 0, 0, 0, 0, 0, 0)), center, 2, [2]int{-1, 0}, [2]int{1, 1}, api.OK},
		{"the first one of three", pair(middle, image(5, 5, 0, 0, 0, 0, 0, 0, 0, 0, 0, 0, 0, 1, 0, 1, 0, 0, 0, 1, 0, 0, 0, 0, 0, 0, 0)), center, 2, [2]int{0, -1}, [2]int{1, 1}, api.OK},
		{"a straight one before a diagonal one", pair(middle, image(5, 5, 0, 0, 0, 0, 0, 0, 1, 0, 0, 0, 0, 0, 0, 1, 0, 0, 0, 0, 0, 0, 0, 0, 0, 0, 0)), center, 2, [2]int{0, 1}, [2]int{1, 1}, api.OK},
		{"two lines before one and two", pair(middle, image(5, 5, 0, 0, 0, 0, 0, 1, 0, 0, 0, 0, 0, 0, 0, 0, 0, 0, 0, 0, 0, 0, 0, 0, 1, 0, 0)), center, 2, [2]int{2, 0}, [2]int{1, 1}, api.OK},
		{"a score of 0", pair(line(1, 0), line(0, 1)), window(0, 0, 1, 2), 4, [2]int{}, [2]int{0, 1}, api.OK},
		{"a better score far away", pair(line(1, 2), line(1, 1, 1, 1, 1, 2)), window(0, 0, 1, 2), 4, [2]int{0, 4}, [2]int{1, 1}, api.OK},
		{"a second image that begins later", pair(zerosBut(6, 1, 5, 0, 1), one), window(5, 0, 1, 1), 4, [2]int{}, [2]int{}, api.ErrNone},
		{"zeros", pair(line(0), one), all, 4, [2]int{}, [2]int{}, api.ErrNone},
		{"zeros in the second image", pair(one, zeros(9, 9)), all, 4, [2]int{}, [2]int{}, api.ErrNone},
		{"a reach below 0", pair(line(0), one), all, -1, [2]int{}, [2]int{}, api.ErrRange},
		{"a great reach", pair(one, one), all, 5, [2]int{}, [2]int{}, api.ErrRange},
		{"the greatest reach of all", pair(one, one), all, math.MaxInt, [2]int{}, [2]int{}, api.ErrRange},
		{"a great reach and a window outside", pair(one, one), window(0, 1, 1, 1), 5, [2]int{}, [2]int{}, api.ErrBreak},
	} {
		by, score, err := match.BestOffset(x.p, x.w, x.reach)
		expect(t, x.what, by, err, x.by, x.err)
		expect(t, x.what+", score", score, err, x.score, x.err)
	}
	for _, x := range windowFaults() {
		by, score, err := match.BestOffset(pair(zeros(9, 10), zeros(64, 64)), x.w, -1)
		expect(t, "a window with "+x.what, [][2]int{by, score}, err, [][2]int{{}, {}}, x.err)
	}
}

// bestOf is the definition of the best offset; nil if there is none.
func bestOf(p api.MatchPair, w api.MatchWindow, reach int) ([2]int, *big.Rat) {
	var best [2]int
	var bestScore *big.Rat
	for l := -reach; l <= reach; l++ {
		for s := -reach; s <= reach; s++ {
			score := scoreOf(p, w, [2]int{l, s})
			if score == nil {
				continue
			}
			order := 1
			if bestScore != nil {
				order = score.Cmp(bestScore)
			}
			if order > 0 || order == 0 && size(l)+size(s) < size(best[0])+size(best[1]) {
				best, bestScore = [2]int{l, s}, score
			}
		}
	}
	return best, bestScore
}

// P3.1: against the definition; few kinds of samples make equal scores, great ones make scores that hardly differ.
func TestBestOffsetByDefinition(t *testing.T) {
	numbers := source(2)
	for _, size := range []int{1, 2, api.MaxSample} {
		for range 30 {
			p := pair(numbers.image(12, 12, size), numbers.image(numbers.from(5, 14), numbers.from(5, 14), size))
			w := window(numbers.below(5), numbers.below(5), numbers.from(1, 8), numbers.from(1, 8))
			reach := numbers.below(5)
			by, score, err := match.BestOffset(p, w, reach)
			if best, bestScore := bestOf(p, w, reach); bestScore != nil {
				expect(t, "the best offset", by, err, best, api.OK)
				expect(t, "the best score", score, err, asPair(bestScore), api.OK)
			} else {
				expect(t, "no best offset", by, err, [2]int{}, api.ErrNone)
			}
		}
	}
}

// P3.1: scores whose products need more than 64 bits.
func TestBestOffsetOfNearScores(t *testing.T) {
	first, second := zeros(8, 8), zeros(8, 16)
	for i := range first.Data {
		first.Data[i] = 2047 - 2047i
	}
	for i := range second.Data {
		second.Data[i] = 2047 + 2047i
	}
	second.Data[0] = 2046 + 2047i
	second.Data[7*16+15] = 2045 + 2047i
	p, w := pair(first, second), window(0, 0, 8, 8)
	by, score, err := match.BestOffset(p, w, 4)
	expect(t, "the best offset", by, err, [2]int{0, 1}, api.OK)
	expect(t, "the best score", score, err, [2]int{1, 1}, api.OK)
	second.Data[4] = 2046 + 2046i
	best, bestScore := bestOf(p, w, 4)
	by, score, err = match.BestOffset(p, w, 4)
	expect(t, "the best offset of near ones", by, err, best, api.OK)
	expect(t, "the best score of near ones", score, err, asPair(bestScore), api.OK)
}

// R3: pairs stay as they are.
func TestPairsStay(t *testing.T) {
	numbers := source(3)
	p := pair(numbers.image(20, 20, 9), numbers.image(20, 20, 9))
	p.First.Data[0], p.Second.Data[0] = complex(minusZero, minusZero), complex(minusZero, 0)
	before := copyOfPair(p)
	match.Score(p, window(0, 0, 8, 8), [2]int{1, 1})
	match.BestOffset(p, window(0, 0, 8, 8), 4)
	match.Register(p, task(8, 8, 4, 4, 0, 8), api.KernelCubic)
	expect(t, "the pair", p, api.OK, before, api.OK)
}
