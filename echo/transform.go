package echo

import "swath/api"

// Transform gives the transform of a list modulo EchoPrime.
func Transform(a []int) ([]int, api.Errno) {
	if err := checkList(a); err != api.OK {
		return nil, err
	}
	return sumsOfPowers(a, rootFor(len(a))), api.OK
}

// Inverse gives the list whose transform is a: that of the inverse root, divided by the count.
func Inverse(a []int) ([]int, api.Errno) {
	if err := checkList(a); err != api.OK {
		return nil, err
	}
	list := sumsOfPowers(a, inverseOf(rootFor(len(a))))
	share := inverseOf(len(a))
	for j := range list {
		list[j] = list[j] * share % api.EchoPrime
	}
	return list, api.OK
}

// Correlate gives the correlation of a with b modulo EchoPrime.
func Correlate(a, b []int) ([]int, api.Errno) {
	if err := checkList(a); err != api.OK {
		return nil, err
	}
	if err := checkList(b); err != api.OK {
		return nil, err
	}
	if len(a) != len(b) {
		return nil, api.ErrClash
	}
	n := len(a)
	result := make([]int, n)
	for s := range n {
		for k := range n {
			result[s] = (result[s] + a[(s+k)%n]*b[k]) % api.EchoPrime
		}
	}
	return result, api.OK
}

func checkList(a []int) api.Errno {
	n := len(a)
	if !within(n, 1, api.MaxTransform) || n&(n-1) != 0 {
		return api.ErrShape
	}
	for _, number := range a {
		if !within(number, 0, api.EchoPrime-1) {
			return api.ErrRange
		}
	}
	return api.OK
}

// sumsOfPowers gives at k the sum of a[j] times root to the power of j k.
func sumsOfPowers(a []int, root int) []int {
	n := len(a)
	powers := make([]int, n)
	for j := range n {
		powers[j] = power(root, j)
	}
	sums := make([]int, n)
	for k := range n {
		for j := range n {
			sums[k] = (sums[k] + a[j]*powers[j*k%n]) % api.EchoPrime
		}
	}
	return sums
}

// rootFor gives a number whose n-th power is the first one that is 1.
func rootFor(n int) int {
	return power(api.EchoRoot, (api.EchoPrime-1)/n)
}

// inverseOf gives the number by which n has to be multiplied for 1, by Fermat's little theorem.
func inverseOf(n int) int {
	return power(n, api.EchoPrime-2)
}

func power(base, exponent int) int {
	result := 1
	for exponent > 0 {
		if exponent%2 == 1 {
			result = result * base % api.EchoPrime
		}
		base = base * base % api.EchoPrime
		exponent /= 2
	}
	return result
}
