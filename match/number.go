package match

// divideDown rounds a / b down, for b above 0.
func divideDown(a, b int) int {
	quotient := a / b
	if a%b < 0 {
		quotient--
	}
	return quotient
}

// commonDivisor gives the greatest one of several numbers that are not all 0.
func commonDivisor(numbers ...int) int {
	divisor := 0
	for _, n := range numbers {
		rest := sizeOf(n)
		for rest > 0 {
			divisor, rest = rest, divisor%rest
		}
	}
	return divisor
}

func sizeOf(n int) int {
	return max(n, -n)
}
