package match

import (
	"iter"

	"swath/api"
)

// scene is an image that is 0 everywhere around itself.
type scene struct{ api.RadarImage }

// has tells whether a window of at most the greatest size lies in the scene.
func (s scene) has(w api.MatchWindow) bool {
	return within(w.Line, 0, s.Lines-w.Lines) && within(w.Sample, 0, s.Samples-w.Samples)
}

// at adds 0 to a sample, so that no part of it is -0.
func (s scene) at(line, sample int) complex128 {
	if !within(line, 0, s.Lines-1) || !within(sample, 0, s.Samples-1) {
		return 0
	}
	return complex128(s.Data[line*s.Samples+sample]) + 0
}

// window yields the places and samples of a window, line by line, also where it reaches out of the scene.
func (s scene) window(w api.MatchWindow) iter.Seq2[[2]int, complex128] {
	return func(yield func([2]int, complex128) bool) {
		for line := w.Line; line < w.Line+w.Lines; line++ {
			for sample := w.Sample; sample < w.Sample+w.Samples; sample++ {
				if !yield([2]int{line, sample}, s.at(line, sample)) {
					return
				}
			}
		}
	}
}
