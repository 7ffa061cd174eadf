package unwrap

import (
	"iter"
	"slices"

	"swath/api"
)

const halfTurn = api.PhaseTurn / 2

func wrap(phase int) int {
	above := (phase + halfTurn) % api.PhaseTurn
	if above < 0 {
		above += api.PhaseTurn
	}
	return above - halfTurn
}

// neighbours yields the pairs of neighbours with their numbers: first those across (the left one first), row by row, then those down (the upper one first), row by row.
func neighbours(rows, columns int) iter.Seq2[int, [2]int] {
	return func(yield func(int, [2]int) bool) {
		number := 0
		for pixel := range rows * columns {
			if pixel%columns == columns-1 {
				continue
			}
			if !yield(number, [2]int{pixel, pixel + 1}) {
				return
			}
			number++
		}
		for pixel := range (rows - 1) * columns {
			if !yield(number, [2]int{pixel, pixel + columns}) {
				return
			}
			number++
		}
	}
}

// areNeighbours tells whether two pixels are beside one another.
func areNeighbours(p, q, columns int) bool {
	first, last := min(p, q), max(p, q)
	return last-first == columns || last-first == 1 && last%columns != 0
}

// Along gives the phases along a path of pixels.
func Along(m api.PhaseMap, path []int) ([]int, api.Errno) {
	err := firstError(checkWrapped(m), errorIf(len(path) > api.MaxUnwrapPath, api.ErrLarge))
	if err != api.OK {
		return nil, err
	}
	var phases []int
	for i, pixel := range path {
		if !within(pixel, 0, len(m.Phases)-1) {
			return nil, api.ErrMissing
		}
		if m.Phases[pixel] == api.PhaseVoid {
			return nil, api.ErrVoid
		}
		if i == 0 {
			phases = append(phases, m.Phases[pixel])
			continue
		}
		before := path[i-1]
		if !areNeighbours(before, pixel, m.Columns) {
			return nil, api.ErrGap
		}
		phases = append(phases, phases[i-1]+stepBetween(m, before, pixel))
	}
	return phases, api.OK
}

// stepBetween goes back by what it goes ahead: half a turn is a step of -2048 ahead, and of 2048 back.
func stepBetween(m api.PhaseMap, from, to int) int {
	if from > to {
		return -stepBetween(m, to, from)
	}
	return wrap(m.Phases[to] - m.Phases[from])
}

// WeightsOf gives the weights of the pairs of neighbours, across and down, by a map of coherences.
func WeightsOf(c api.FloatMap) ([]int, []int, api.Errno) {
	err := firstError(
		checkSize(c.Rows, c.Columns, len(c.Data)),
		checkUnwrapSize(len(c.Data)),
		checkAll(c.Data, checkCoherence),
	)
	if err != api.OK {
		return nil, nil, err
	}
	var weights []int
	for _, pair := range neighbours(c.Rows, c.Columns) {
		weights = append(weights, int(min(c.Data[pair[0]], c.Data[pair[1]])))
	}
	across := c.Rows * (c.Columns - 1)
	return slices.Clone(weights[:across]), slices.Clone(weights[across:]), api.OK
}
