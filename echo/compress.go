package echo

import "swath/api"

// Compress gives the field of an image that is compressed by a code along its lines.
func Compress(im api.RadarImage, code []complex64) (api.RadarField, api.Errno) {
	if _, err := CheckImage(im); err != api.OK {
		return api.RadarField{}, err
	}
	if _, err := CheckCode(code); err != api.OK {
		return api.RadarField{}, err
	}
	if len(code) > im.Samples {
		return api.RadarField{}, api.ErrShape
	}
	field := newField(im.Lines, im.Samples-len(code)+1)
	for i := range field.Data {
		first := i/field.Samples*im.Samples + i%field.Samples
		field.Data[i] = sumOf(len(code), func(k int) complex128 {
			return timesConjugate(complex128(im.Data[first+k]), complex128(code[k]))
		})
	}
	return field, api.OK
}

// Focus gives the field that is compressed by a code across its lines.
func Focus(f api.RadarField, code []complex64) (api.RadarField, api.Errno) {
	if _, err := CheckField(f); err != api.OK {
		return api.RadarField{}, err
	}
	if _, err := CheckCode(code); err != api.OK {
		return api.RadarField{}, err
	}
	if len(code) > f.Lines {
		return api.RadarField{}, api.ErrShape
	}
	focused := newField(f.Lines-len(code)+1, f.Samples)
	for i := range focused.Data {
		z := sumOf(len(code), func(k int) complex128 {
			return timesConjugate(f.Data[i+k*f.Samples], complex128(code[k]))
		})
		if exceeds(z, api.MaxField) {
			return api.RadarField{}, api.ErrLarge
		}
		focused.Data[i] = z
	}
	return focused, api.OK
}

func newField(lines, samples int) api.RadarField {
	return api.RadarField{Lines: lines, Samples: samples, Data: make([]complex128, lines*samples)}
}

// sumOf adds what term gives for the numbers below count. The sum is exact, and it begins with 0 so that none of its parts is -0.
func sumOf(count int, term func(k int) complex128) complex128 {
	var sum complex128
	for k := range count {
		sum += term(k)
	}
	return sum
}

func timesConjugate(a, b complex128) complex128 {
	return a * complex(real(b), -imag(b))
}
