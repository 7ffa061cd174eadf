package series

import "swath/api"

const (
	// waveParts are the parts of a turn, there and back.
	waveParts    = 2 * api.PhaseTurn
	maxThreshold = 1000000000
)

func checkMoved(x api.SeriesMoved) api.Errno {
	right := withinSize(x.First, api.MaxPhase) && withinSize(x.Second, api.MaxPhase)
	right = right && isMargin(x.FirstMargin) && isMargin(x.SecondMargin)
	return errorIf(!right || !within(x.Wave, 1, api.MaxWave), api.ErrRange)
}

// movementsOf gives the movements, over waveParts.
func movementsOf(x api.SeriesMoved) api.Range {
	change, margin := x.Second-x.First, x.FirstMargin+x.SecondMargin
	return api.Range{Lo: -(change + margin) * x.Wave, Hi: -(change - margin) * x.Wave}
}

// Moved gives the enclosure of the movement between two dates.
func Moved(x api.SeriesMoved) (api.Range, api.Errno) {
	if err := checkMoved(x); err != api.OK {
		return api.Range{}, err
	}
	movements := movementsOf(x)
	return api.Range{Lo: divideDown(movements.Lo, waveParts), Hi: divideUp(movements.Hi, waveParts)}, api.OK
}

// Exceeds tells whether the movement between two dates is greater in size than a threshold.
func Exceeds(x api.SeriesMoved, threshold int) (int, api.Errno) {
	if err := firstError(checkMoved(x), errorIf(!within(threshold, 0, maxThreshold), api.ErrRange)); err != api.OK {
		return 0, err
	}
	movements, most := movementsOf(x), threshold*waveParts
	switch {
	case movements.Lo > most || movements.Hi < -most:
		return api.AnswerYes, api.OK
	case withinSize(movements.Lo, most) && withinSize(movements.Hi, most):
		return api.AnswerNo, api.OK
	}
	return api.AnswerMaybe, api.OK
}
