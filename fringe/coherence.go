package fringe

import (
	"math"
	"math/bits"

	"swath/api"
)

const (
	fullCoherence = 1000
	fullSquare    = fullCoherence * fullCoherence
	leastLooks    = 2
)

// Coherence gives how well two images agree within the window around each sample, in thousandths.
func Coherence(a, b api.RadarImage, half int) (api.FloatMap, api.Errno) {
	if err := firstError(checkImages(a, b), checkWindow(half)); err != api.OK {
		return api.FloatMap{}, err
	}
	energies := combined(energiesAround(a, half), energiesAround(b, half), func(p, q int) int { return p * q })
	coherences := combined(filtered(interfered(a, b), half), energies, coherenceOf)
	return api.FloatMap{Rows: a.Lines, Columns: a.Samples, Data: coherences.cells}, api.OK
}

// energiesAround sums the energies of windows: those of samples are what an image has with itself.
func energiesAround(im api.RadarImage, half int) grid[int] {
	return each(filtered(interfered(im, im), half), func(z number) int { return int(real(z)) })
}

// coherenceOf gives the greatest number whose square is not above the energy of the sum in millionths of the product of both energies. The former is at most the latter, as the division needs it.
func coherenceOf(sum number, energies int) float32 {
	if energies == 0 {
		return 0
	}
	high, low := bits.Mul64(uint64(sum.energy()), fullSquare)
	square, _ := bits.Div64(high, low, uint64(energies))
	return float32(math.Floor(math.Sqrt(float64(square))))
}

// SquareOf gives the square of a coherence without the bias that so many looks have, in millionths.
func SquareOf(coherence, looks int) (int, api.Errno) {
	if !within(coherence, 0, fullCoherence) || !within(looks, leastLooks, api.MaxLooks) {
		return 0, api.ErrRange
	}
	return max(0, looks*coherence*coherence-fullSquare) / (looks - 1), api.OK
}

// Masked gives a map that is void also where a quality is less than the least one.
func Masked(m api.PhaseMap, q api.FloatMap, least int) (api.PhaseMap, api.Errno) {
	err := firstError(
		checkMaps(m),
		checkFloats(q),
		checkSizes(sizeOfMap(m), sizeOfFloats(q)),
		errorIf(!within(least, -api.MaxHeight, api.MaxHeight), api.ErrRange),
	)
	if err != api.OK {
		return api.PhaseMap{}, err
	}
	masked := combined(gridOfMap(m), gridOfFloats(q), func(p phase, quality float32) phase {
		if int(quality) < least {
			return void
		}
		return p
	})
	return mapOf(masked), api.OK
}
