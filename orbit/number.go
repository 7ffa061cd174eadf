package orbit

import (
	"math"

	"swath/api"
)

// divideDown rounds a / b down, for b above 0.
func divideDown(a, b int) int {
	quotient := a / b
	if a%b < 0 {
		quotient--
	}
	return quotient
}

// divideUp rounds a / b up, for b above 0.
func divideUp(a, b int) int {
	return -divideDown(-a, b)
}

// rootDown rounds the square root of n down. Squares may be too great for an exact float: then its root may be that of the next square, but it is never less than that of n.
func rootDown(n int) int {
	root := int(math.Sqrt(float64(n)))
	if root*root > n {
		root--
	}
	return root
}

// rootUp rounds the square root of n up.
func rootUp(n int) int {
	root := rootDown(n)
	if root*root < n {
		root++
	}
	return root
}

// lowest gives a / b in lowest terms, for b above 0.
func lowest(a, b int) api.Frac {
	divisor, rest := b, max(a, -a)
	for rest > 0 {
		divisor, rest = rest, divisor%rest
	}
	return api.Frac{Num: a / divisor, Den: b / divisor}
}

// difference goes from the place q to the place p.
func difference(p, q api.Place) [3]int {
	return [3]int{p.X - q.X, p.Y - q.Y, p.Z - q.Z}
}

// product gives the sum of the products of the coordinates.
func product(a, b [3]int) int {
	return a[0]*b[0] + a[1]*b[1] + a[2]*b[2]
}

func squareBetween(p, q api.Place) int {
	d := difference(p, q)
	return product(d, d)
}
