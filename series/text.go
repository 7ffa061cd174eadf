package series

import (
	"strconv"
	"strings"

	"swath/api"
)

const (
	seriesWord = "series"
	epochWord  = "epoch"
	maxWritten = 9999999
)

// Print gives the text of a series.
func Print(s api.SeriesPoint) (string, api.Errno) {
	if err := CheckSeries(s); err != api.OK {
		return "", err
	}
	var text strings.Builder
	text.WriteString(line(seriesWord, s.Name))
	for _, epoch := range s.Epochs {
		text.WriteString(line(epochWord, strconv.Itoa(epoch.Day), strconv.Itoa(epoch.Base), strconv.Itoa(epoch.Phase), strconv.Itoa(epoch.Margin)))
	}
	return text.String(), api.OK
}

func line(words ...string) string {
	return strings.Join(words, " ") + "\n"
}

// Parse gives the series with a text, or else the number of the first line that has not its form.
func Parse(t string) (api.SeriesPoint, int, api.Errno) {
	if len(t) > api.MaxText {
		return api.SeriesPoint{}, 0, api.ErrLarge
	}
	s, wrong := readSeries(t)
	if wrong > 0 {
		return api.SeriesPoint{}, wrong, api.ErrSyntax
	}
	if err := CheckSeries(s); err != api.OK {
		return api.SeriesPoint{}, 0, err
	}
	return s, 0, api.OK
}

// readSeries gives the series with a text, or else the number of the first wrong line.
func readSeries(t string) (api.SeriesPoint, int) {
	head, t, ended := strings.Cut(t, "\n")
	name, ok := readName(head)
	if !ended || !ok {
		return api.SeriesPoint{}, 1
	}
	s := api.SeriesPoint{Name: name}
	for number := 2; t != ""; number++ {
		line, rest, ended := strings.Cut(t, "\n")
		epoch, ok := readEpoch(line)
		if !ended || !ok {
			return api.SeriesPoint{}, number
		}
		s.Epochs = append(s.Epochs, epoch)
		t = rest
	}
	return s, 0
}

// readName gives the name in the first line, and tells whether the line has its form.
func readName(line string) (string, bool) {
	words := strings.Split(line, " ")
	if len(words) != 2 || words[0] != seriesWord {
		return "", false
	}
	return words[1], true
}

// readEpoch gives the date in a line, and tells whether the line has its form.
func readEpoch(line string) (api.SeriesEpoch, bool) {
	words := strings.Split(line, " ")
	if len(words) != 5 || words[0] != epochWord {
		return api.SeriesEpoch{}, false
	}
	var numbers [4]int
	for i, word := range words[1:] {
		n, ok := readNumber(word)
		if !ok {
			return api.SeriesEpoch{}, false
		}
		numbers[i] = n
	}
	return api.SeriesEpoch{Day: numbers[0], Base: numbers[1], Phase: numbers[2], Margin: numbers[3]}, true
}

// readNumber takes a word only if the number is written thus: so it has no leading zeros, no "+" and no "-0".
func readNumber(word string) (int, bool) {
	n, err := strconv.Atoi(word)
	return n, err == nil && withinSize(n, maxWritten) && strconv.Itoa(n) == word
}
