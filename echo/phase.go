package echo

import (
	"math"

	"swath/api"
)

const (
	halfTurn    = api.PhaseTurn / 2
	quarterTurn = api.PhaseTurn / 4
	// lastMark is an eighth of a turn in halves of a part.
	lastMark = 2 * (api.PhaseTurn / 8)
)

// mark is a direction beside its angle in halves of a part.
type mark struct{ halves, x, y int }

// Direction gives the direction of m halves of a part.
func Direction(m int) ([2]int, api.Errno) {
	if !within(m, 0, lastMark) {
		return [2]int{}, api.ErrRange
	}
	found, next := narrow(func(middle mark) bool { return middle.halves <= m })
	if m == lastMark {
		found = next
	}
	return [2]int{found.x, found.y}, api.OK
}

// PhaseOf gives the phase of a complex number in parts of a turn.
func PhaseOf(z complex128) (int, api.Errno) {
	if err := checkParts(z, api.MaxSum); err != api.OK {
		return 0, err
	}
	if z == 0 {
		return 0, api.ErrVoid
	}
	phase := phaseOfParts(parts(z))
	if phase == halfTurn {
		phase = -halfTurn
	}
	return phase, api.OK
}

// phaseOfParts gives a phase from -2048 to 2048 of numbers that are not both 0.
func phaseOfParts(x, y int) int {
	switch {
	case y < 0:
		return -phaseOfParts(x, -y)
	case x < 0:
		return halfTurn - phaseOfParts(-x, y)
	case y > x:
		return quarterTurn - phaseOfParts(y, x)
	}
	return (halvesReached(x, y) + 1) / 2
}

// halvesReached gives the greatest number of halves of a part that is not beyond x + y i, where 0 <= y <= x.
func halvesReached(x, y int) int {
	if x == y {
		return lastMark
	}
	reached, _ := narrow(func(middle mark) bool { return middle.x*y >= middle.y*x })
	return reached.halves
}

// narrow halves the marks from 0 to 1024 until two neighbours are left: after each half that is reached it goes on above, otherwise below.
func narrow(reached func(middle mark) bool) (mark, mark) {
	side := rootOf(api.DirectionOne * api.DirectionOne / 2)
	low, high := mark{0, api.DirectionOne, 0}, mark{lastMark, side, side}
	for high.halves-low.halves > 1 {
		middle := between(low, high)
		if reached(middle) {
			low = middle
		} else {
			high = middle
		}
	}
	return low, high
}

func between(a, b mark) mark {
	x, y := a.x+b.x, a.y+b.y
	length := rootOf(x*x + y*y)
	return mark{(a.halves + b.halves) / 2, x * api.DirectionOne / length, y * api.DirectionOne / length}
}

// rootOf rounds the square root of n down. For n up to 2 to the power of 51 the float is too exact to reach the next whole number.
func rootOf(n int) int {
	return int(math.Sqrt(float64(n)))
}

// PairSum gives the sum of the samples times the conjugates of those a line before.
func PairSum(im api.RadarImage) (complex128, api.Errno) {
	if _, err := CheckImage(im); err != api.OK {
		return 0, err
	}
	if im.Lines == 1 {
		return 0, api.ErrShape
	}
	sum := sumOf(len(im.Data)-im.Samples, func(k int) complex128 {
		return timesConjugate(complex128(im.Data[k+im.Samples]), complex128(im.Data[k]))
	})
	return sum, api.OK
}

// DopplerPhase gives the phase by which an image turns from line to line.
func DopplerPhase(im api.RadarImage) (int, api.Errno) {
	sum, err := PairSum(im)
	if err != api.OK {
		return 0, err
	}
	return PhaseOf(sum)
}

// Unfolded gives the number nearest to near that differs from phase by whole turns, of two the lesser one.
func Unfolded(phase, near int) (int, api.Errno) {
	if !within(phase, -api.MaxPhase, api.MaxPhase) || !within(near, -api.MaxPhase, api.MaxPhase) {
		return 0, api.ErrRange
	}
	least := near - halfTurn
	above := (phase - least) % api.PhaseTurn
	if above < 0 {
		above += api.PhaseTurn
	}
	return least + above, api.OK
}
