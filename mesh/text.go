package mesh

import (
	"strconv"
	"strings"

	"swath/api"
)

const (
	pointWord    = "point"
	triangleWord = "triangle"
	maxWritten   = 9999999
)

// Print gives the text of a net.
func Print(n api.MeshNet) (string, api.Errno) {
	if _, err := rightNet(n); err != api.OK {
		return "", err
	}
	var text strings.Builder
	for _, p := range n.Points {
		text.WriteString(line(pointWord, p.X, p.Y))
	}
	for _, t := range n.Triangles {
		text.WriteString(line(triangleWord, t[:]...))
	}
	return text.String(), api.OK
}

func line(word string, numbers ...int) string {
	for _, n := range numbers {
		word += " " + strconv.Itoa(n)
	}
	return word + "\n"
}

// Parse gives the net with a text, or else the number of the first line that has not its form.
func Parse(s string) (api.MeshNet, int, api.Errno) {
	if len(s) > api.MaxText {
		return api.MeshNet{}, 0, api.ErrLarge
	}
	n, wrong := readNet(s)
	if wrong > 0 {
		return api.MeshNet{}, wrong, api.ErrSyntax
	}
	if _, err := rightNet(n); err != api.OK {
		return api.MeshNet{}, 0, err
	}
	return n, 0, api.OK
}

// readNet gives the net with a text, or else the number of the first wrong line.
func readNet(s string) (api.MeshNet, int) {
	lines := strings.Split(s, "\n")
	last := len(lines) - 1
	var n api.MeshNet
	for i, line := range lines[:last] {
		if !readLine(&n, line) {
			return api.MeshNet{}, i + 1
		}
	}
	// What is behind the last line feed is nothing, unless a line has no end.
	if lines[last] != "" {
		return api.MeshNet{}, len(lines)
	}
	return n, 0
}

// readLine adds to a net what a line says, and tells whether the line has its form.
func readLine(n *api.MeshNet, line string) bool {
	words := strings.Split(line, " ")
	numbers, ok := readNumbers(words[1:])
	switch {
	case !ok:
		return false
	case words[0] == pointWord && len(numbers) == 2 && len(n.Triangles) == 0:
		n.Points = append(n.Points, api.MeshPoint{X: numbers[0], Y: numbers[1]})
	case words[0] == triangleWord && len(numbers) == 3:
		n.Triangles = append(n.Triangles, [3]int(numbers))
	default:
		return false
	}
	return true
}

func readNumbers(words []string) ([]int, bool) {
	var numbers []int
	for _, word := range words {
		n, ok := readNumber(word)
		if !ok {
			return nil, false
		}
		numbers = append(numbers, n)
	}
	return numbers, true
}

// readNumber takes a word only if the number is written thus: so it has no leading zeros, no "+" and no "-0".
func readNumber(word string) (int, bool) {
	n, err := strconv.Atoi(word)
	return n, err == nil && withinSize(n, maxWritten) && strconv.Itoa(n) == word
}
