package series

import "swath/api"

// divideDown rounds a / b down, for b above 0.
func divideDown(a, b int) int {
	quotient := a / b
	if a%b < 0 {
		quotient--
	}
	return quotient
}

// divideUp rounds a / b up, for b above 0.
func divideUp(a, b int) int {
	return -divideDown(-a, b)
}

// divideNear rounds a / b to the nearest whole number, halves up, for b above 0.
func divideNear(a, b int) int {
	return divideDown(2*a+b, 2*b)
}

// smallFrac gives a / b in lowest terms, for b above 0: ErrLarge if it is not small.
func smallFrac(a, b int) (api.Frac, api.Errno) {
	divisor, rest := b, size(a)
	for rest > 0 {
		divisor, rest = rest, divisor%rest
	}
	x := api.Frac{Num: a / divisor, Den: b / divisor}
	if !withinSize(x.Num, api.MaxPart) || x.Den > api.MaxPart {
		return api.Frac{}, api.ErrLarge
	}
	return x, api.OK
}

// smallFracs gives numerators over one denominator above 0: ErrLarge if one of the fractions is not small.
func smallFracs(den int, nums ...int) ([]api.Frac, api.Errno) {
	var l []api.Frac
	for _, num := range nums {
		x, err := smallFrac(num, den)
		if err != api.OK {
			return nil, err
		}
		l = append(l, x)
	}
	return l, api.OK
}

func size(n int) int {
	return max(n, -n)
}
