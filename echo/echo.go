// Package echo is chapter 1: images, codes, compression, phases, Doppler. See shared/doc/01-echo.md.
package echo

import (
	"math"

	"swath/api"
)

// sample is a complex number of an image or of a field.
type sample interface{ complex64 | complex128 }

// CheckImage tells whether an image has its form, or else the number of its first wrong sample.
func CheckImage(im api.RadarImage) (int, api.Errno) {
	return checkGrid(im.Lines, im.Samples, im.Data, api.MaxSample)
}

// CheckField tells whether a field has its form, or else the number of its first wrong sample.
func CheckField(f api.RadarField) (int, api.Errno) {
	return checkGrid(f.Lines, f.Samples, f.Data, api.MaxField)
}

// CheckCode tells whether a code has its form, or else the number of its first wrong sample.
func CheckCode(code []complex64) (int, api.Errno) {
	if len(code) == 0 {
		return 0, api.ErrShape
	}
	if len(code) > api.MaxCodes {
		return 0, api.ErrLarge
	}
	if at, err := checkSamples(code, api.MaxCode); err != api.OK {
		return at, err
	}
	if allZero(code) {
		return 0, api.ErrZero
	}
	return 0, api.OK
}

func checkGrid[S sample](lines, samples int, data []S, limit float64) (int, api.Errno) {
	if !within(lines, 1, api.MaxLines) || !within(samples, 1, api.MaxSamples) {
		return 0, api.ErrRange
	}
	if len(data) != lines*samples {
		return 0, api.ErrShape
	}
	return checkSamples(data, limit)
}

func checkSamples[S sample](data []S, limit float64) (int, api.Errno) {
	for i, z := range data {
		if err := checkParts(complex128(z), limit); err != api.OK {
			return i, err
		}
	}
	return 0, api.OK
}

func checkParts(z complex128, limit float64) api.Errno {
	if !isWhole(real(z)) || !isWhole(imag(z)) {
		return api.ErrWhole
	}
	if exceeds(z, limit) {
		return api.ErrRange
	}
	return api.OK
}

func isWhole(x float64) bool {
	return x == math.Trunc(x) && !math.IsInf(x, 0)
}

// exceeds tells whether a part of z is greater in size than the limit.
func exceeds(z complex128, limit float64) bool {
	return math.Abs(real(z)) > limit || math.Abs(imag(z)) > limit
}

func within(n, low, high int) bool {
	return low <= n && n <= high
}

func allZero(samples []complex64) bool {
	for _, z := range samples {
		if z != 0 {
			return false
		}
	}
	return true
}

// parts gives the parts of a checked number: no part has a sign of its own if it is 0.
func parts(z complex128) (int, int) {
	return int(real(z)), int(imag(z))
}
