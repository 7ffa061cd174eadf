package match

import (
	"cmp"
	"math/bits"

	"swath/api"
)

// score is how well two windows agree, as a fraction from 0 to 1 with den above 0.
type score struct{ num, den int }

// found is an offset with its score.
type found struct {
	by    [2]int
	score score
}

// Score gives the score of a window and the second one at an offset, in lowest terms.
func Score(p api.MatchPair, w api.MatchWindow, by [2]int) ([2]int, api.Errno) {
	if err := checkPairAndWindow(p, w); err != api.OK {
		return [2]int{}, err
	}
	s, err := scoreAt(p, w, by)
	if err != api.OK {
		return [2]int{}, err
	}
	return s.lowest(), api.OK
}

// BestOffset gives the best offset of a window within a reach, and its score.
func BestOffset(p api.MatchPair, w api.MatchWindow, reach int) ([2]int, [2]int, api.Errno) {
	if err := firstError(checkPairAndWindow(p, w), errorIf(!isReach(reach), api.ErrRange)); err != api.OK {
		return [2]int{}, [2]int{}, err
	}
	best, err := bestOffset(p, w, reach)
	if err != api.OK {
		return [2]int{}, [2]int{}, err
	}
	return best.by, best.score.lowest(), api.OK
}

// bestOffset goes through the offsets in lexicographic order, so that the first one of equal ones stays.
func bestOffset(p api.MatchPair, w api.MatchWindow, reach int) (found, api.Errno) {
	best, result := found{}, api.ErrNone
	for lines := -reach; lines <= reach; lines++ {
		for samples := -reach; samples <= reach; samples++ {
			by := [2]int{lines, samples}
			s, err := scoreAt(p, w, by)
			if err != api.OK {
				continue
			}
			if next := (found{by, s}); result != api.OK || next.isBetter(best) {
				best, result = next, api.OK
			}
		}
	}
	return best, result
}

func (f found) isBetter(g found) bool {
	order := f.score.compare(g.score)
	return order > 0 || order == 0 && f.length() < g.length()
}

func (f found) length() int {
	return sizeOf(f.by[0]) + sizeOf(f.by[1])
}

// scoreAt gives the score of a window that lies in the first image. An offset so great that the sum wraps around begins below 0, and so outside of the image.
func scoreAt(p api.MatchPair, w api.MatchWindow, by [2]int) (score, api.Errno) {
	first, second := scene{p.First}, scene{p.Second}
	moved := w
	moved.Line += by[0]
	moved.Sample += by[1]
	if !second.has(moved) {
		return score{}, api.ErrBreak
	}
	var product complex128
	energies := [2]int{}
	for at, a := range first.window(w) {
		b := second.at(at[0]+by[0], at[1]+by[1])
		product += a * conjugate(b)
		energies[0] += energy(a)
		energies[1] += energy(b)
	}
	s := score{energy(product), energies[0] * energies[1]}
	return s, errorIf(s.den == 0, api.ErrZero)
}

func conjugate(z complex128) complex128 {
	return complex(real(z), -imag(z))
}

// energy gives the sum of the squares of both parts.
func energy(z complex128) int {
	x, y := int(real(z)), int(imag(z))
	return x*x + y*y
}

// compare multiplies crosswise; the products have up to 116 bits.
func (s score) compare(t score) int {
	high, low := bits.Mul64(uint64(s.num), uint64(t.den))
	otherHigh, otherLow := bits.Mul64(uint64(t.num), uint64(s.den))
	return cmp.Or(cmp.Compare(high, otherHigh), cmp.Compare(low, otherLow))
}

// thousandths rounds the score down. It is at most 1000, as the division needs it.
func (s score) thousandths() int {
	high, low := bits.Mul64(uint64(s.num), 1000)
	quotient, _ := bits.Div64(high, low, uint64(s.den))
	return int(quotient)
}

func (s score) lowest() [2]int {
	divisor := commonDivisor(s.num, s.den)
	return [2]int{s.num / divisor, s.den / divisor}
}
