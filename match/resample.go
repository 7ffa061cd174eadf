package match

import (
	"math"

	"swath/api"
)

// farthest is the greatest size of the numbers of a place, in sixteenths.
const farthest = 2048

// taps are the samples along one axis that a kernel takes: the first one, their weights, and the sum of these.
type taps struct {
	first   int
	weights []float32
	sum     float32
}

// Weights gives the weights of a kernel for a part, and their sum.
func Weights(kernel, part int) ([]float32, float32, api.Errno) {
	if err := firstError(checkKernel(kernel), errorIf(!within(part, 0, api.MatchParts-1), api.ErrRange)); err != api.OK {
		return nil, 0, err
	}
	weights, sum := weightsOf(kernel, part)
	return weights, sum, api.OK
}

func checkKernel(kernel int) api.Errno {
	return errorIf(!within(kernel, api.KernelNearest, api.KernelCubic), api.ErrKind)
}

// weightsOf reckons with whole numbers that a float32 holds exactly.
func weightsOf(kernel, part int) ([]float32, float32) {
	p := float32(part)
	square, cube := p*p, p*p*p
	switch {
	case kernel == api.KernelCubic:
		before := 32*square - cube - 256*p
		here := 3*cube - 80*square + 8192
		next := 64*square - 3*cube + 256*p
		behind := cube - 16*square
		return []float32{before, here, next, behind}, 8192
	case kernel == api.KernelLinear:
		return []float32{api.MatchParts - p, p}, api.MatchParts
	case 2*part < api.MatchParts:
		return []float32{1, 0}, 1
	}
	return []float32{0, 1}, 1
}

// tapsAt begins so far before the sample at hand that this one and the next one are in the middle.
func tapsAt(kernel, at int) taps {
	hand := divideDown(at, api.MatchParts)
	weights, sum := weightsOf(kernel, at-api.MatchParts*hand)
	return taps{hand + 1 - len(weights)/2, weights, sum}
}

// SampleAt gives the sample of an image at a place in sixteenths of lines and samples.
func SampleAt(im api.RadarImage, kernel int, at [2]int) (complex64, api.Errno) {
	if err := firstError(checkImage(im), checkKernel(kernel)); err != api.OK {
		return 0, err
	}
	for _, n := range at {
		if !within(n, -farthest, farthest) {
			return 0, api.ErrRange
		}
	}
	return scene{im}.resampledAt(kernel, at), api.OK
}

// resampledAt takes any place. The sums of weights are powers of two, so that the quotients are exact.
func (s scene) resampledAt(kernel int, at [2]int) complex64 {
	lines, samples := tapsAt(kernel, at[0]), tapsAt(kernel, at[1])
	around := api.MatchWindow{Line: lines.first, Sample: samples.first, Lines: len(lines.weights), Samples: len(samples.weights)}
	var sum complex128
	for place, z := range s.window(around) {
		weight := lines.weightAt(place[0]) * samples.weightAt(place[1])
		sum += complex(weight, 0) * z
	}
	scale := float64(lines.sum) * float64(samples.sum)
	return complex(nearestPart(real(sum)/scale), nearestPart(imag(sum)/scale))
}

// weightAt widens the weight, as the product of two ones may be too great for a float32.
func (t taps) weightAt(n int) float64 {
	return float64(t.weights[n-t.first])
}

// nearestPart takes halves upwards, and keeps what it gives within the limits of samples.
func nearestPart(x float64) float32 {
	return float32(min(max(math.Floor(x+0.5), -api.MaxSample), api.MaxSample))
}

// Resampled gives an image whose samples are taken where an affine shift puts them.
func Resampled(im api.RadarImage, r api.MatchResample) (api.RadarImage, api.Errno) {
	err := firstError(
		checkImage(im),
		checkKernel(r.Kernel),
		errorIf(!within(r.Lines, 1, api.MaxLines) || !within(r.Samples, 1, api.MaxSamples), api.ErrRange),
		CheckAffine(r.By),
	)
	if err != api.OK {
		return api.RadarImage{}, err
	}
	result := api.RadarImage{Lines: r.Lines, Samples: r.Samples, Data: make([]complex64, r.Lines*r.Samples)}
	for i := range result.Data {
		line, sample := i/r.Samples, i%r.Samples
		by := shift{r.By}.sixteenths(line, sample)
		at := [2]int{api.MatchParts*line + by[0], api.MatchParts*sample + by[1]}
		result.Data[i] = scene{im}.resampledAt(r.Kernel, at)
	}
	return result, api.OK
}

// Register resamples the second image to the first one; it gives the shift and the points that it is made of, too.
func Register(p api.MatchPair, t api.MatchTask, kernel int) (api.RadarImage, api.MatchAffine, []api.MatchPoint, api.Errno) {
	points, err := Offsets(p, t)
	if err := firstError(err, checkKernel(kernel)); err != api.OK {
		return api.RadarImage{}, api.MatchAffine{}, nil, err
	}
	points = fitting(points, t.Tolerance)
	f, err := Fit(points)
	if err != api.OK {
		return api.RadarImage{}, api.MatchAffine{}, nil, err
	}
	r := api.MatchResample{Kernel: kernel, Lines: p.First.Lines, Samples: p.First.Samples, By: f}
	registered, err := Resampled(p.Second, r)
	if err != api.OK {
		return api.RadarImage{}, api.MatchAffine{}, nil, err
	}
	return registered, f, points, api.OK
}

// fitting gives those of right points that fit within a right tolerance.
func fitting(l []api.MatchPoint, tolerance int) []api.MatchPoint {
	kept, _ := Kept(l, tolerance)
	var points []api.MatchPoint
	for _, i := range kept {
		points = append(points, l[i])
	}
	return points
}
