package series

import "swath/api"

const (
	parameters  = 3
	phaseColumn = parameters
)

// row is what a date of a series, or a point of a screen, adds to a fit: the factors of the three parameters, and the phase.
type row [parameters + 1]int

// matrix is the left side of normal equations, or its cofactors.
type matrix [parameters][parameters]int

// sumOf adds the products of columns over all rows.
func sumOf(rows []row, columns ...int) int {
	sum := 0
	for _, r := range rows {
		product := 1
		for _, column := range columns {
			product *= r[column]
		}
		sum += product
	}
	return sum
}

// normalOf gives the normal equations of rows, and their right side.
func normalOf(rows []row) (matrix, [parameters]int) {
	var left matrix
	var right [parameters]int
	for p := range parameters {
		for q := range parameters {
			left[p][q] = sumOf(rows, p, q)
		}
		right[p] = sumOf(rows, p, phaseColumn)
	}
	return left, right
}

// cofactors go around the rows and the columns, so that none of them needs a sign.
func (m matrix) cofactors() matrix {
	at := func(p, q int) int { return m[p%parameters][q%parameters] }
	cofactor := func(p, q int) int { return at(p+1, q+1)*at(p+2, q+2) - at(p+1, q+2)*at(p+2, q+1) }
	var all matrix
	for p := range parameters {
		for q := range parameters {
			all[p][q] = cofactor(p, q)
		}
	}
	return all
}

// determinant is not below 0, as the matrix has sums of products of columns.
func (m matrix) determinant() int {
	return product(m[0], m.cofactors()[0])
}

func (m matrix) rank() int {
	if m.determinant() != 0 {
		return parameters
	}
	rank := 0
	for parameter := range parameters {
		rank = max(rank, m.rankWithout(parameter))
	}
	return rank
}

// rankWithout gives the rank of the other two columns: as the matrix has sums of their products, their own cofactor is 0 only if they do depend on each other.
func (m matrix) rankWithout(parameter int) int {
	next, last := (parameter+1)%parameters, (parameter+2)%parameters
	switch {
	case m.cofactors()[parameter][parameter] != 0:
		return 2
	case m[next][next] != 0 || m[last][last] != 0:
		return 1
	}
	return 0
}

// undetermined gives the parameters whose columns the others make up for.
func (m matrix) undetermined() []int {
	var l []int
	for parameter := range parameters {
		if m.rankWithout(parameter) == m.rank() {
			l = append(l, parameter)
		}
	}
	return l
}

func (r row) factors() [parameters]int {
	return [parameters]int{r[0], r[1], r[2]}
}

func product(a, b [parameters]int) int {
	sum := 0
	for p := range parameters {
		sum += a[p] * b[p]
	}
	return sum
}

// rowsOf gives the rows of a right series, with days from its first one on.
func rowsOf(s api.SeriesPoint) []row {
	var rows []row
	for _, epoch := range s.Epochs {
		rows = append(rows, row{epoch.Day - s.Epochs[0].Day, epoch.Base, 1, epoch.Phase})
	}
	return rows
}

// NormalOf gives the normal equations of a series, row by row, and their right side.
func NormalOf(s api.SeriesPoint) ([9]int, [3]int, api.Errno) {
	if err := CheckSeries(s); err != api.OK {
		return [9]int{}, [3]int{}, err
	}
	left, right := normalOf(rowsOf(s))
	var sums [9]int
	for i := range sums {
		sums[i] = left[i/parameters][i%parameters]
	}
	return sums, right, api.OK
}

// RankOf gives the rank of the normal equations, and the parameters that they do not determine.
func RankOf(s api.SeriesPoint) (int, []int, api.Errno) {
	if err := CheckSeries(s); err != api.OK {
		return 0, nil, err
	}
	left, _ := normalOf(rowsOf(s))
	return left.rank(), left.undetermined(), api.OK
}
