package series

import "swath/api"

// The parameters of planes, and of trends, which have no second slope.
const (
	firstSlope = iota
	secondSlope
)

// CheckScreen tells whether a screen has its form.
func CheckScreen(l []api.ScreenPoint) api.Errno {
	if len(l) == 0 {
		return api.ErrShape
	}
	if len(l) > api.MaxScreen {
		return api.ErrLarge
	}
	for _, point := range l {
		if !isAway(point.X) || !isAway(point.Y) || !isAway(point.Height) || !isPhase(point.Phase) {
			return api.ErrRange
		}
	}
	return api.OK
}

func isAway(n int) bool {
	return withinSize(n, api.MaxScreenAway)
}

// trendOf gives the rows of the trend of a screen, those of its points first, and their fit.
func trendOf(l []api.ScreenPoint) ([]row, fit, api.Errno) {
	if err := CheckScreen(l); err != api.OK {
		return nil, fit{}, err
	}
	var rows []row
	for _, point := range l {
		rows = append(rows, row{point.Height, 0, 1, point.Phase})
	}
	rows = without(rows, secondSlope)
	f, err := fitOf(rows)
	return rows, f, err
}

// HeightTrend gives slope and constant of the trend of a screen.
func HeightTrend(l []api.ScreenPoint) ([2]api.Frac, api.Errno) {
	_, f, err := trendOf(l)
	if err != api.OK {
		return [2]api.Frac{}, err
	}
	return f.withConstant(firstSlope)
}

// Plane gives both slopes and the constant of the plane of a screen.
func Plane(l []api.ScreenPoint) ([3]api.Frac, api.Errno) {
	if err := CheckScreen(l); err != api.OK {
		return [3]api.Frac{}, err
	}
	var rows []row
	for _, point := range l {
		rows = append(rows, row{point.X, point.Y, 1, point.Phase})
	}
	f, err := fitOf(rows)
	if err != api.OK {
		return [3]api.Frac{}, err
	}
	return f.all()
}

// Removed gives the phases of a screen less its trend, as whole numbers.
func Removed(l []api.ScreenPoint) ([]int, api.Errno) {
	rows, f, err := trendOf(l)
	if err != api.OK {
		return nil, err
	}
	var phases []int
	for i := range l {
		phases = append(phases, divideNear(f.missedAt(rows[i]), f.den))
	}
	return phases, api.OK
}
