package match

import "swath/api"

// shift is an affine shift that is asked at places.
type shift struct{ api.MatchAffine }

// matrix is that of normal equations: for the constant, the lines and the samples.
type matrix [3][3]int

// Fit gives the affine shift that misses points least.
func Fit(l []api.MatchPoint) (api.MatchAffine, api.Errno) {
	rank, err := RankOf(l)
	if err != api.OK {
		return api.MatchAffine{}, err
	}
	if rank != fullRank {
		return api.MatchAffine{}, api.ErrRank
	}
	m := normalMatrix(l)
	f := api.MatchAffine{Den: m.determinant(), Line: m.solve(l, 0), Sample: m.solve(l, 1)}
	return lowestAffine(f), api.OK
}

func normalMatrix(l []api.MatchPoint) matrix {
	var m matrix
	for _, x := range l {
		factors := factorsAt(x.Line, x.Sample)
		for i, a := range factors {
			for j, b := range factors {
				m[i][j] += a * b
			}
		}
	}
	return m
}

// solve gives the numerators over the determinant for the offsets in lines (0) or in samples (1): each is the determinant with the right side in one column.
func (m matrix) solve(l []api.MatchPoint, axis int) [3]int {
	var right, terms [3]int
	for _, x := range l {
		for i, a := range factorsAt(x.Line, x.Sample) {
			right[i] += a * x.By[axis]
		}
	}
	for column := range terms {
		replaced := m
		for row := range replaced {
			replaced[row][column] = right[row]
		}
		terms[column] = replaced.determinant()
	}
	return terms
}

func (m matrix) determinant() int {
	sum := 0
	for i := range m {
		next, last := (i+1)%len(m), (i+2)%len(m)
		sum += m[0][i] * (m[1][next]*m[2][last] - m[1][last]*m[2][next])
	}
	return sum
}

// factorsAt are those of the three terms of a shift.
func factorsAt(line, sample int) [3]int {
	return [3]int{1, line, sample}
}

func lowestAffine(f api.MatchAffine) api.MatchAffine {
	divisor := commonDivisor(f.Den, f.Line[0], f.Line[1], f.Line[2], f.Sample[0], f.Sample[1], f.Sample[2])
	f.Den /= divisor
	for i := range f.Line {
		f.Line[i] /= divisor
		f.Sample[i] /= divisor
	}
	return f
}

// CheckAffine tells whether an affine shift has its form.
func CheckAffine(f api.MatchAffine) api.Errno {
	right := within(f.Den, 1, api.MaxMatchDen)
	for i := range f.Line {
		right = right && isTerm(f.Line[i]) && isTerm(f.Sample[i])
	}
	return errorIf(!right, api.ErrRange)
}

func isTerm(n int) bool {
	return within(n, -api.MaxMatchTerm, api.MaxMatchTerm)
}

// ShiftAt gives the shift at a place in sixteenths.
func ShiftAt(f api.MatchAffine, line, sample int) ([2]int, api.Errno) {
	if err := firstError(CheckAffine(f), errorIf(!isPlace(line, sample), api.ErrRange)); err != api.OK {
		return [2]int{}, err
	}
	return shift{f}.sixteenths(line, sample), api.OK
}

// numerators gives the shift in lines and in samples, each over Den.
func (f shift) numerators(line, sample int) [2]int {
	var sums [2]int
	for i, factor := range factorsAt(line, sample) {
		sums[0] += f.Line[i] * factor
		sums[1] += f.Sample[i] * factor
	}
	return sums
}

// sixteenths takes halves upwards. The greatest numerator, 127 terms of 10^15, leaves room for twice 16 times itself.
func (f shift) sixteenths(line, sample int) [2]int {
	parts := f.numerators(line, sample)
	for i, n := range parts {
		parts[i] = divideDown(2*api.MatchParts*n+f.Den, 2*f.Den)
	}
	return parts
}

// Worst gives the number of the point whose offset differs most from the shift.
func Worst(f api.MatchAffine, l []api.MatchPoint) (int, api.Errno) {
	if err := CheckAffine(f); err != api.OK {
		return 0, err
	}
	if _, err := CheckPoints(l); err != api.OK {
		return 0, err
	}
	if len(l) == 0 {
		return 0, api.ErrShape
	}
	worst := 0
	for i, x := range l {
		if (shift{f}).missed(x) > (shift{f}).missed(l[worst]) {
			worst = i
		}
	}
	return worst, api.OK
}

// missed gives the greater one of what is missed in lines and in samples, over Den.
func (f shift) missed(x api.MatchPoint) int {
	told := f.numerators(x.Line, x.Sample)
	return max(sizeOf(x.By[0]*f.Den-told[0]), sizeOf(x.By[1]*f.Den-told[1]))
}
