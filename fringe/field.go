package fringe

import (
	"iter"
	"math"
	"slices"

	"swath/api"
	"swath/echo"
)

// number is a number of a field.
type number complex128

// isLarge tells whether a part is too great for a field.
func (z number) isLarge() bool {
	return math.Abs(real(z)) > api.MaxField || math.Abs(imag(z)) > api.MaxField
}

// energy is reckoned with integers, as floats would lose its last digits.
func (z number) energy() int {
	x, y := int(real(z)), int(imag(z))
	return x*x + y*y
}

// Interfere gives the interferogram of two images.
func Interfere(a, b api.RadarImage) (api.RadarField, api.Errno) {
	if err := checkImages(a, b); err != api.OK {
		return api.RadarField{}, err
	}
	return fieldOf(interfered(a, b)), api.OK
}

func interfered(a, b api.RadarImage) grid[number] {
	return combined(gridOfImage(a), gridOfImage(b), timesConjugate)
}

func timesConjugate(x, y complex64) number {
	z, w := complex128(x), complex128(y)
	return number(z * complex(real(w), -imag(w)))
}

// Looked gives the sums of the blocks of a field.
func Looked(f api.RadarField, by [2]int) (api.RadarField, api.Errno) {
	if err := checkField(f); err != api.OK {
		return api.RadarField{}, err
	}
	if !within(by[0], 1, f.Lines) || !within(by[1], 1, f.Samples) {
		return api.RadarField{}, api.ErrRange
	}
	g := gridOfField(f)
	looked := made(f.Lines/by[0], f.Samples/by[1], func(at place) number {
		first := place{at[0] * by[0], at[1] * by[1]}
		last := place{first[0] + by[0] - 1, first[1] + by[1] - 1}
		return sumOf(g.between(first, last))
	})
	return fieldInLimits(looked)
}

// Filtered gives the sums of the windows around each number of a field.
func Filtered(f api.RadarField, half int) (api.RadarField, api.Errno) {
	if err := firstError(checkField(f), checkWindow(half)); err != api.OK {
		return api.RadarField{}, err
	}
	return fieldInLimits(filtered(gridOfField(f), half))
}

func filtered(g grid[number], half int) grid[number] {
	return made(g.rows, g.columns, func(at place) number { return sumOf(g.around(at, half)) })
}

func sumOf(numbers iter.Seq[number]) number {
	var sum number
	for z := range numbers {
		sum += z
	}
	return sum
}

func fieldInLimits(g grid[number]) (api.RadarField, api.Errno) {
	if slices.ContainsFunc(g.cells, number.isLarge) {
		return api.RadarField{}, api.ErrLarge
	}
	return fieldOf(g), api.OK
}

// PhasesOf gives the phases of a field, void where it is 0.
func PhasesOf(f api.RadarField) (api.PhaseMap, api.Errno) {
	if err := checkField(f); err != api.OK {
		return api.PhaseMap{}, err
	}
	return mapOf(each(gridOfField(f), phaseOf)), api.OK
}

// phaseOf gives the phase of a number of a checked field: it has none only if it is 0.
func phaseOf(z number) phase {
	n, err := echo.PhaseOf(complex128(z))
	if err != api.OK {
		return void
	}
	return phase(n)
}
