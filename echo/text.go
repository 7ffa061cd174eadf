package echo

import (
	"strconv"
	"strings"

	"swath/api"
)

const (
	imageWord   = "image"
	headNumbers = 3
	maxDigits   = 7
	checkTurn   = 65521
)

// Print gives the text of an image.
func Print(im api.RadarImage) (string, api.Errno) {
	if _, err := CheckImage(im); err != api.OK {
		return "", err
	}
	text := []byte(imageWord)
	for _, n := range [headNumbers]int{im.Lines, im.Samples, checkOf(im)} {
		text = appendNumber(append(text, ' '), n)
	}
	for i, z := range im.Data {
		x, y := parts(complex128(z))
		text = appendNumber(append(text, separator(i, im.Samples)), x)
		text = appendNumber(append(text, ' '), y)
	}
	return string(append(text, '\n')), api.OK
}

// separator stands in front of the sample i.
func separator(i, samples int) byte {
	if i%samples == 0 {
		return '\n'
	}
	return ' '
}

func appendNumber(text []byte, n int) []byte {
	return strconv.AppendInt(text, int64(n), 10)
}

// checkOf gives the check over all parts of an image.
func checkOf(im api.RadarImage) int {
	check := 0
	for _, z := range im.Data {
		x, y := parts(complex128(z))
		check = addToCheck(addToCheck(check, x), y)
	}
	return check
}

func addToCheck(check, part int) int {
	return (31*check + part + api.MaxSample + 1) % checkTurn
}

// Parse gives the image with a text, or else the number of the first line that has not its form.
func Parse(s string) (api.RadarImage, int, api.Errno) {
	if len(s) > api.MaxText {
		return api.RadarImage{}, 0, api.ErrLarge
	}
	rows, wrong := readRows(s)
	if wrong > 0 {
		return api.RadarImage{}, wrong, api.ErrSyntax
	}
	lines, samples, check := rows[0][0], rows[0][1], rows[0][2]
	if !fits(rows[1:], lines, samples) {
		return api.RadarImage{}, 0, api.ErrShape
	}
	im := imageOf(rows[1:], samples)
	if _, err := CheckImage(im); err != api.OK {
		return api.RadarImage{}, 0, err
	}
	if checkOf(im) != check {
		return api.RadarImage{}, 0, api.ErrSum
	}
	return im, 0, api.OK
}

// readRows gives the numbers of each line, or else the number of the first line that has not its form. An empty text has one line, which does not end.
func readRows(s string) ([][]int, int) {
	var rows [][]int
	for number := 1; number == 1 || s != ""; number++ {
		line, rest, ended := strings.Cut(s, "\n")
		row, ok := readLine(line, number)
		if !ok || !ended {
			return nil, number
		}
		rows = append(rows, row)
		s = rest
	}
	return rows, 0
}

func readLine(line string, number int) ([]int, bool) {
	words := strings.Split(line, " ")
	if number == 1 {
		if words[0] != imageWord || len(words) != 1+headNumbers {
			return nil, false
		}
		words = words[1:]
	}
	row := make([]int, len(words))
	for i, word := range words {
		n, ok := readNumber(word)
		if !ok {
			return nil, false
		}
		row[i] = n
	}
	return row, true
}

// readNumber reads a decimal number without leading zeros, with "-" in front if it is negative.
func readNumber(word string) (int, bool) {
	digits, negative := strings.CutPrefix(word, "-")
	if !within(len(digits), 1, maxDigits) {
		return 0, false
	}
	if digits[0] == '0' && (negative || len(digits) > 1) {
		return 0, false
	}
	n := 0
	for i := range len(digits) {
		if digits[i] < '0' || digits[i] > '9' {
			return 0, false
		}
		n = 10*n + int(digits[i]-'0')
	}
	if negative {
		n = -n
	}
	return n, true
}

// fits tells whether there are so many rows, each with two numbers a sample.
func fits(rows [][]int, lines, samples int) bool {
	if len(rows) != lines {
		return false
	}
	for _, row := range rows {
		if len(row) != 2*samples {
			return false
		}
	}
	return true
}

func imageOf(rows [][]int, samples int) api.RadarImage {
	im := api.RadarImage{Lines: len(rows), Samples: samples}
	for _, row := range rows {
		for i := 0; i < len(row); i += 2 {
			im.Data = append(im.Data, complex(float32(row[i]), float32(row[i+1])))
		}
	}
	return im
}
