package echo

import "swath/api"

// Added gives the image with the sums of the samples of two images.
func Added(a, b api.RadarImage) (api.RadarImage, api.Errno) {
	if _, err := CheckImage(a); err != api.OK {
		return api.RadarImage{}, err
	}
	if _, err := CheckImage(b); err != api.OK {
		return api.RadarImage{}, err
	}
	if a.Lines != b.Lines || a.Samples != b.Samples {
		return api.RadarImage{}, api.ErrClash
	}
	sums := newImage(a.Lines, a.Samples)
	for i := range sums.Data {
		z := a.Data[i] + b.Data[i]
		if exceeds(complex128(z), api.MaxSample) {
			return api.RadarImage{}, api.ErrLarge
		}
		sums.Data[i] = withoutMinusZero(z)
	}
	return sums, api.OK
}

// Shifted gives an image moved by lines and samples, with 0 where nothing comes from.
func Shifted(im api.RadarImage, by [2]int) (api.RadarImage, api.Errno) {
	if _, err := CheckImage(im); err != api.OK {
		return api.RadarImage{}, err
	}
	if !within(by[0], -api.MaxLines, api.MaxLines) || !within(by[1], -api.MaxSamples, api.MaxSamples) {
		return api.RadarImage{}, api.ErrRange
	}
	moved := newImage(im.Lines, im.Samples)
	for i := range moved.Data {
		line, sample := i/im.Samples-by[0], i%im.Samples-by[1]
		if within(line, 0, im.Lines-1) && within(sample, 0, im.Samples-1) {
			moved.Data[i] = withoutMinusZero(im.Data[line*im.Samples+sample])
		}
	}
	return moved, api.OK
}

// Gaps gives the longest ranges of lines whose samples are all 0.
func Gaps(im api.RadarImage) ([]api.Range, api.Errno) {
	if _, err := CheckImage(im); err != api.OK {
		return nil, err
	}
	var gaps []api.Range
	open := false
	for line := range im.Lines {
		empty := allZero(im.Data[line*im.Samples : (line+1)*im.Samples])
		switch {
		case empty && open:
			gaps[len(gaps)-1].Hi = line
		case empty:
			gaps = append(gaps, api.Range{Lo: line, Hi: line})
		}
		open = empty
	}
	return gaps, api.OK
}

// Clipped gives how many samples have a part of the greatest size.
func Clipped(im api.RadarImage) (int, api.Errno) {
	if _, err := CheckImage(im); err != api.OK {
		return 0, err
	}
	count := 0
	for _, z := range im.Data {
		if exceeds(complex128(z), api.MaxSample-1) {
			count++
		}
	}
	return count, api.OK
}

func newImage(lines, samples int) api.RadarImage {
	return api.RadarImage{Lines: lines, Samples: samples, Data: make([]complex64, lines*samples)}
}

// withoutMinusZero gives z with 0 for each part that is -0, as no result may have one.
func withoutMinusZero(z complex64) complex64 {
	x, y := parts(complex128(z))
	return complex(float32(x), float32(y))
}
