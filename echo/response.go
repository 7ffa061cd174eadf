package echo

import "swath/api"

// EnergyAt gives the energy of a sample of a field.
func EnergyAt(f api.RadarField, line, sample int) (int, api.Errno) {
	if err := checkLine(f, line); err != api.OK {
		return 0, err
	}
	if !within(sample, 0, f.Samples-1) {
		return 0, api.ErrRange
	}
	return energy(f.Data[line*f.Samples+sample]), api.OK
}

// Peak gives the first line and sample with the greatest energy, and this energy.
func Peak(f api.RadarField) ([2]int, int, api.Errno) {
	if _, err := CheckField(f); err != api.OK {
		return [2]int{}, 0, err
	}
	energies := energiesOf(f.Data)
	at := firstGreatest(energies)
	return [2]int{at / f.Samples, at % f.Samples}, energies[at], api.OK
}

// Response gives the response of the point that is strongest along a line.
func Response(f api.RadarField, line int) (api.EchoPoint, api.Errno) {
	if err := checkLine(f, line); err != api.OK {
		return api.EchoPoint{}, err
	}
	energies := energiesOf(f.Data[line*f.Samples : (line+1)*f.Samples])
	peak := firstGreatest(energies)
	most := energies[peak]
	if most == 0 {
		return api.EchoPoint{}, api.ErrNone
	}
	half := rangeAround(peak, len(energies), func(_, at int) bool { return 2*energies[at] >= most })
	lobe := rangeAround(peak, len(energies), func(before, at int) bool { return energies[at] < energies[before] })
	return api.EchoPoint{Peak: peak, Energy: most, Half: half, Lobe: lobe, Side: greatestOutside(energies, lobe)}, api.OK
}

func checkLine(f api.RadarField, line int) api.Errno {
	if _, err := CheckField(f); err != api.OK {
		return err
	}
	if !within(line, 0, f.Lines-1) {
		return api.ErrRange
	}
	return api.OK
}

// energy is reckoned with integers, as floats would lose its last digits.
func energy(z complex128) int {
	x, y := parts(z)
	return x*x + y*y
}

func energiesOf(samples []complex128) []int {
	energies := make([]int, len(samples))
	for i, z := range samples {
		energies[i] = energy(z)
	}
	return energies
}

func firstGreatest(energies []int) int {
	at := 0
	for i, e := range energies {
		if e > energies[at] {
			at = i
		}
	}
	return at
}

// rangeAround gives the longest range around peak into which each step away from it, to at from the place before, may be taken.
func rangeAround(peak, count int, mayStep func(before, at int) bool) api.Range {
	around := api.Range{Lo: peak, Hi: peak}
	for around.Lo > 0 && mayStep(around.Lo, around.Lo-1) {
		around.Lo--
	}
	for around.Hi < count-1 && mayStep(around.Hi, around.Hi+1) {
		around.Hi++
	}
	return around
}

func greatestOutside(energies []int, inside api.Range) int {
	most := 0
	for i, e := range energies {
		if !within(i, inside.Lo, inside.Hi) {
			most = max(most, e)
		}
	}
	return most
}
