package mesh

import (
	"math/bits"

	"swath/api"
)

const leastAmplitudes = 2

// Dispersion gives the variance of amplitudes divided by the square of their mean, in lowest terms.
func Dispersion(amplitudes []int) ([2]int, api.Errno) {
	if len(amplitudes) < leastAmplitudes {
		return [2]int{}, api.ErrShape
	}
	if len(amplitudes) > api.MaxScenes {
		return [2]int{}, api.ErrLarge
	}
	sum, squares := 0, 0
	for _, a := range amplitudes {
		if !within(a, 0, api.MaxMeshAmplitude) {
			return [2]int{}, api.ErrRange
		}
		sum += a
		squares += a * a
	}
	if sum == 0 {
		return [2]int{}, api.ErrZero
	}
	num, den := len(amplitudes)*squares-sum*sum, sum*sum
	divisor := commonDivisor(num, den)
	return [2]int{num / divisor, den / divisor}, api.OK
}

// commonDivisor gives the greatest common divisor of a number and one above 0.
func commonDivisor(a, b int) int {
	for a != 0 {
		a, b = b%a, a
	}
	return max(b, -b)
}

// Chosen gives the numbers of the scatterers whose dispersion is at most a fraction.
func Chosen(l []api.MeshScatterer, most api.Frac) ([]int, api.Errno) {
	dispersions, err := dispersionsOf(l)
	if err := firstError(err, checkFraction(most)); err != api.OK {
		return nil, err
	}
	var chosen []int
	for i, dispersion := range dispersions {
		if isAtMost(dispersion, most) {
			chosen = append(chosen, i)
		}
	}
	return chosen, api.OK
}

func dispersionsOf(l []api.MeshScatterer) ([][2]int, api.Errno) {
	if len(l) > api.MaxMeshPoints {
		return nil, api.ErrLarge
	}
	var places []api.MeshPoint
	var dispersions [][2]int
	for _, scatterer := range l {
		dispersion, err := Dispersion(scatterer.Amplitudes)
		if err := firstError(checkNewPlace(scatterer.Place, places), err); err != api.OK {
			return nil, err
		}
		places = append(places, scatterer.Place)
		dispersions = append(dispersions, dispersion)
	}
	return dispersions, api.OK
}

func checkFraction(f api.Frac) api.Errno {
	if f.Den <= 0 || commonDivisor(f.Num, f.Den) != 1 {
		return api.ErrForm
	}
	return errorIf(!within(f.Num, 0, api.MaxPart) || f.Den > api.MaxPart, api.ErrRange)
}

// isAtMost compares products of 65 bits: 3.24 * 10^10, the greatest square of a sum, times 10^9.
func isAtMost(dispersion [2]int, most api.Frac) bool {
	high, low := bits.Mul64(uint64(dispersion[0]), uint64(most.Den))
	mostHigh, mostLow := bits.Mul64(uint64(most.Num), uint64(dispersion[1]))
	return high < mostHigh || high == mostHigh && low <= mostLow
}
