package unwrap

import (
	"strconv"
	"strings"

	"swath/api"
)

const (
	edgeNumbers = 4
	maxWritten  = 9999999
)

// FormatNet gives the text of a net.
func FormatNet(n api.UnwrapNet) string {
	words := []string{strconv.Itoa(n.Nodes)}
	for _, e := range n.Edges {
		for _, number := range [edgeNumbers]int{e.From, e.To, e.Jump, e.Weight} {
			words = append(words, strconv.Itoa(number))
		}
	}
	return strings.Join(words, " ")
}

// ParseNet gives the net with a text.
func ParseNet(s string) (api.UnwrapNet, api.Errno) {
	numbers, ok := readNumbers(s)
	if !ok || (len(numbers)-1)%edgeNumbers != 0 {
		return api.UnwrapNet{}, api.ErrSyntax
	}
	n := api.UnwrapNet{Nodes: numbers[0]}
	for i := 1; i < len(numbers); i += edgeNumbers {
		n.Edges = append(n.Edges, api.UnwrapEdge{From: numbers[i], To: numbers[i+1], Jump: numbers[i+2], Weight: numbers[i+3]})
	}
	if err := checkNet(n); err != api.OK {
		return api.UnwrapNet{}, err
	}
	return n, api.OK
}

func readNumbers(s string) ([]int, bool) {
	var numbers []int
	for word := range strings.SplitSeq(s, " ") {
		n, ok := readNumber(word)
		if !ok {
			return nil, false
		}
		numbers = append(numbers, n)
	}
	return numbers, true
}

// readNumber takes a word only if the number is written thus: so it has no leading zeros, no "+" and no "-0".
func readNumber(word string) (int, bool) {
	n, err := strconv.Atoi(word)
	return n, err == nil && withinSize(n, maxWritten) && strconv.Itoa(n) == word
}
