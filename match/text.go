package match

import (
	"strconv"
	"strings"

	"swath/api"
)

const (
	maxDigits     = 16
	pointNumbers  = 5
	affineNumbers = 7
)

// FormatPoint gives the text of a point.
func FormatPoint(x api.MatchPoint) string {
	return textOf(x.Line, x.Sample, x.By[0], x.By[1], x.Score)
}

// ParsePoint gives the point with a text.
func ParsePoint(s string) (api.MatchPoint, api.Errno) {
	n, ok := readNumbers(s, pointNumbers)
	if !ok {
		return api.MatchPoint{}, api.ErrSyntax
	}
	x := api.MatchPoint{Line: n[0], Sample: n[1], By: [2]int{n[2], n[3]}, Score: n[4]}
	if err := checkPoint(x); err != api.OK {
		return api.MatchPoint{}, err
	}
	return x, api.OK
}

// FormatAffine gives the text of an affine shift.
func FormatAffine(f api.MatchAffine) string {
	return textOf(f.Den, f.Line[0], f.Line[1], f.Line[2], f.Sample[0], f.Sample[1], f.Sample[2])
}

// ParseAffine gives the affine shift with a text.
func ParseAffine(s string) (api.MatchAffine, api.Errno) {
	n, ok := readNumbers(s, affineNumbers)
	if !ok {
		return api.MatchAffine{}, api.ErrSyntax
	}
	f := api.MatchAffine{Den: n[0], Line: [3]int(n[1:4]), Sample: [3]int(n[4:7])}
	if err := CheckAffine(f); err != api.OK {
		return api.MatchAffine{}, err
	}
	return f, api.OK
}

func textOf(numbers ...int) string {
	var words []string
	for _, n := range numbers {
		words = append(words, strconv.Itoa(n))
	}
	return strings.Join(words, " ")
}

// readNumbers reads so many numbers with single blanks between.
func readNumbers(s string, count int) ([]int, bool) {
	words := strings.Split(s, " ")
	if len(words) != count {
		return nil, false
	}
	numbers := make([]int, count)
	for i, word := range words {
		n, ok := readNumber(word)
		if !ok {
			return nil, false
		}
		numbers[i] = n
	}
	return numbers, true
}

// readNumber reads a decimal number without leading zeros, with "-" in front if it is negative.
func readNumber(word string) (int, bool) {
	digits, negative := strings.CutPrefix(word, "-")
	if !within(len(digits), 1, maxDigits) {
		return 0, false
	}
	if digits[0] == '0' && (negative || len(digits) > 1) {
		return 0, false
	}
	n := 0
	for i := range len(digits) {
		if digits[i] < '0' || digits[i] > '9' {
			return 0, false
		}
		n = 10*n + int(digits[i]-'0')
	}
	if negative {
		n = -n
	}
	return n, true
}
