package fringe

import (
	"strconv"
	"strings"

	"swath/api"
)

const (
	headWord    = "phases"
	headNumbers = 2
	voidWord    = "*"
	maxWritten  = 999999999
)

// Print gives the text of a map.
func Print(m api.PhaseMap) (string, api.Errno) {
	if err := checkMaps(m); err != api.OK {
		return "", err
	}
	lines := []string{headWord + " " + strconv.Itoa(m.Rows) + " " + strconv.Itoa(m.Columns)}
	for row := range m.Rows {
		var words []string
		for _, n := range m.Phases[row*m.Columns : (row+1)*m.Columns] {
			words = append(words, wordOf(phase(n)))
		}
		lines = append(lines, strings.Join(words, " "))
	}
	return strings.Join(lines, "\n") + "\n", api.OK
}

func wordOf(p phase) string {
	if p.isVoid() {
		return voidWord
	}
	return strconv.Itoa(int(p))
}

// Parse gives the map with a text, or else the number of the first line that has not its form.
func Parse(s string) (api.PhaseMap, int, api.Errno) {
	if len(s) > api.MaxText {
		return api.PhaseMap{}, 0, api.ErrLarge
	}
	rows, wrong := readRows(s)
	if wrong > 0 {
		return api.PhaseMap{}, wrong, api.ErrSyntax
	}
	m := api.PhaseMap{Rows: rows[0][0], Columns: rows[0][1]}
	shaped := len(rows)-1 == m.Rows
	for _, row := range rows[1:] {
		shaped = shaped && len(row) == m.Columns
		m.Phases = append(m.Phases, row...)
	}
	if err := firstError(errorIf(!shaped, api.ErrShape), checkMaps(m)); err != api.OK {
		return api.PhaseMap{}, 0, err
	}
	return m, 0, api.OK
}

// readRows gives the numbers of the first line and the phases of each other one, or else the number of the first line that has not its form.
func readRows(s string) ([][]int, int) {
	lines := strings.Split(s, "\n")
	last := len(lines) - 1
	var rows [][]int
	for i, line := range lines[:last] {
		row, ok := readLine(line, i == 0)
		if !ok {
			return nil, i + 1
		}
		rows = append(rows, row)
	}
	// What is behind the last line feed is nothing, unless a line has no end.
	if len(rows) == 0 || lines[last] != "" {
		return nil, len(lines)
	}
	return rows, 0
}

func readLine(line string, head bool) ([]int, bool) {
	words := strings.Split(line, " ")
	if !head {
		return readWords(words, readPhase)
	}
	if words[0] != headWord || len(words) != 1+headNumbers {
		return nil, false
	}
	return readWords(words[1:], readNumber)
}

func readWords(words []string, read func(word string) (int, bool)) ([]int, bool) {
	var numbers []int
	for _, word := range words {
		n, ok := read(word)
		if !ok {
			return nil, false
		}
		numbers = append(numbers, n)
	}
	return numbers, true
}

func readPhase(word string) (int, bool) {
	if word == voidWord {
		return api.PhaseVoid, true
	}
	return readNumber(word)
}

// readNumber takes a word only if the number is written thus: so it has no leading zeros, no "+" and no "-0".
func readNumber(word string) (int, bool) {
	n, err := strconv.Atoi(word)
	return n, err == nil && within(n, -maxWritten, maxWritten) && strconv.Itoa(n) == word
}
