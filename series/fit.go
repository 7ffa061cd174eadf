package series

import "swath/api"

const (
	maxSlope    = 100
	maxConstant = 1000000
	// velocityParts is how many parts of a velocity its enclosure counts.
	velocityParts = 1000
)

// fit is the only fit of rows: its parameters over one denominator above 0.
type fit struct {
	nums [parameters]int
	den  int
}

// fitOf gives the fit of rows: ErrRank if several ones do fit. The limits of series and of screens keep all numbers of it, of its models and of velocities below 4 * 10^18.
func fitOf(rows []row) (fit, api.Errno) {
	left, right := normalOf(rows)
	f := fit{den: left.determinant()}
	if f.den == 0 {
		return fit{}, api.ErrRank
	}
	cofactors := left.cofactors()
	for p := range parameters {
		f.nums[p] = product(cofactors[p], right)
	}
	return f, api.OK
}

// fitOfSeries gives the rows of a right series, and their fit.
func fitOfSeries(s api.SeriesPoint) ([]row, fit, api.Errno) {
	if err := CheckSeries(s); err != api.OK {
		return nil, fit{}, err
	}
	rows := rowsOf(s)
	f, err := fitOf(rows)
	return rows, f, err
}

// without gives rows for a fit without a parameter: its column is empty, and one row more says that it is 0.
func without(rows []row, parameter int) []row {
	var others []row
	for _, r := range rows {
		r[parameter] = 0
		others = append(others, r)
	}
	nothing := row{}
	nothing[parameter] = 1
	return append(others, nothing)
}

// modelOf gives the model at a row, over the denominator.
func (f fit) modelOf(r row) int {
	return product(f.nums, r.factors())
}

// missedAt gives the phase of a row less the model, over the denominator.
func (f fit) missedAt(r row) int {
	return f.den*r[phaseColumn] - f.modelOf(r)
}

// all gives the three parameters as fractions.
func (f fit) all() ([3]api.Frac, api.Errno) {
	l, err := smallFracs(f.den, f.nums[0], f.nums[1], f.nums[2])
	if err != api.OK {
		return [3]api.Frac{}, err
	}
	return [3]api.Frac{l[0], l[1], l[2]}, api.OK
}

// withConstant gives one parameter and the constant as fractions.
func (f fit) withConstant(parameter int) ([2]api.Frac, api.Errno) {
	l, err := smallFracs(f.den, f.nums[parameter], f.nums[api.SeriesConstant])
	if err != api.OK {
		return [2]api.Frac{}, err
	}
	return [2]api.Frac{l[0], l[1]}, api.OK
}

// Solve gives velocity, height and constant of the fit of a series.
func Solve(s api.SeriesPoint) ([3]api.Frac, api.Errno) {
	_, f, err := fitOfSeries(s)
	if err != api.OK {
		return [3]api.Frac{}, err
	}
	return f.all()
}

// SolveOnly gives velocity or height, and the constant, of the fit of these two alone.
func SolveOnly(s api.SeriesPoint, parameter int) ([2]api.Frac, api.Errno) {
	if err := CheckSeries(s); err != api.OK {
		return [2]api.Frac{}, err
	}
	var other int
	switch parameter {
	case api.SeriesVelocity:
		other = api.SeriesHeight
	case api.SeriesHeight:
		other = api.SeriesVelocity
	default:
		return [2]api.Frac{}, api.ErrKind
	}
	f, err := fitOf(without(rowsOf(s), other))
	if err != api.OK {
		return [2]api.Frac{}, err
	}
	return f.withConstant(parameter)
}

// Residuals gives the phases of a series less the model of its fit.
func Residuals(s api.SeriesPoint) ([]api.Frac, api.Errno) {
	rows, f, err := fitOfSeries(s)
	if err != api.OK {
		return nil, err
	}
	var missed []int
	for _, r := range rows {
		missed = append(missed, f.missedAt(r))
	}
	return smallFracs(f.den, missed...)
}

// Predicted gives the model of the fit of a series at a day and a baseline.
func Predicted(s api.SeriesPoint, day, base int) (api.Frac, api.Errno) {
	if err := CheckSeries(s); err != api.OK {
		return api.Frac{}, err
	}
	first := s.Epochs[0].Day
	if !within(day, first, first+api.MaxSpan) || !isBase(base) {
		return api.Frac{}, api.ErrRange
	}
	f, err := fitOf(rowsOf(s))
	if err != api.OK {
		return api.Frac{}, err
	}
	return smallFrac(f.modelOf(row{day - first, base, 1}), f.den)
}

// SquaresOf gives the sum of the squares of the phases of a series less the model with whole parameters.
func SquaresOf(s api.SeriesPoint, x [3]int) (int, api.Errno) {
	if err := CheckSeries(s); err != api.OK {
		return 0, err
	}
	right := withinSize(x[api.SeriesVelocity], maxSlope) && withinSize(x[api.SeriesHeight], maxSlope)
	if !right || !withinSize(x[api.SeriesConstant], maxConstant) {
		return 0, api.ErrRange
	}
	whole := fit{nums: x, den: 1}
	sum := 0
	for _, r := range rowsOf(s) {
		missed := whole.missedAt(r)
		sum += missed * missed
	}
	return sum, api.OK
}

// VelocityRange gives the enclosure of the velocities of the fits of all phases within their margins, in thousandths.
func VelocityRange(s api.SeriesPoint) (api.Range, api.Errno) {
	rows, f, err := fitOfSeries(s)
	if err != api.OK {
		return api.Range{}, err
	}
	velocity, spread := f.nums[api.SeriesVelocity], velocitySpread(s, rows)
	return api.Range{
		Lo: divideDown(velocityParts*(velocity-spread), f.den),
		Hi: divideUp(velocityParts*(velocity+spread), f.den),
	}, api.OK
}

// velocitySpread gives by how much the margins may change the velocity, over the denominator of the fit. The velocity is a sum of the phases, each with a weight of its own, so each margin counts with the size of its weight.
func velocitySpread(s api.SeriesPoint, rows []row) int {
	left, _ := normalOf(rows)
	cofactors := left.cofactors()[api.SeriesVelocity]
	spread := 0
	for i, r := range rows {
		spread += size(product(cofactors, r.factors())) * s.Epochs[i].Margin
	}
	return spread
}
