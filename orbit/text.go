package orbit

import (
	"strconv"
	"strings"

	"swath/api"
)

const (
	orbitWord    = "orbit"
	bendWord     = "bend"
	stateWord    = "state"
	comment      = ";"
	maxDigits    = 10
	stateNumbers = 5
)

// FormatState gives the text of a state.
func FormatState(s api.OrbitState) string {
	numbers := [stateNumbers]int{s.Tick, s.At.X, s.At.Y, s.At.Z, s.Error}
	var words [stateNumbers]string
	for i, n := range numbers {
		words[i] = strconv.Itoa(n)
	}
	return strings.Join(words[:], " ")
}

// ParseState gives the state with a text.
func ParseState(s string) (api.OrbitState, api.Errno) {
	words := strings.Split(s, " ")
	if len(words) != stateNumbers {
		return api.OrbitState{}, api.ErrSyntax
	}
	var numbers [stateNumbers]int
	for i, word := range words {
		n, ok := readNumber(word)
		if !ok {
			return api.OrbitState{}, api.ErrSyntax
		}
		numbers[i] = n
	}
	state := stateOf(numbers)
	if err := checkState(state); err != api.OK {
		return api.OrbitState{}, err
	}
	return state, api.OK
}

func stateOf(numbers [stateNumbers]int) api.OrbitState {
	at := api.Place{X: numbers[1], Y: numbers[2], Z: numbers[3]}
	return api.OrbitState{Tick: numbers[0], At: at, Error: numbers[4]}
}

// readNumber reads a decimal number without leading zeros, with "-" in front if it is negative.
func readNumber(word string) (int, bool) {
	digits, negative := strings.CutPrefix(word, "-")
	if !within(len(digits), 1, maxDigits) {
		return 0, false
	}
	if digits[0] == '0' && (negative || len(digits) > 1) {
		return 0, false
	}
	n := 0
	for i := range len(digits) {
		if !isDigit(digits[i]) {
			return 0, false
		}
		n = 10*n + int(digits[i]-'0')
	}
	if negative {
		n = -n
	}
	return n, true
}

// Print gives the text of an orbit.
func Print(o api.Orbit) (string, api.Errno) {
	if _, err := CheckOrbit(o); err != api.OK {
		return "", err
	}
	lines := []string{orbitWord + " " + o.Name + " " + bendWord + " " + strconv.Itoa(o.Bend) + "\n"}
	for _, s := range o.States {
		lines = append(lines, stateWord+" "+FormatState(s)+"\n")
	}
	return strings.Join(lines, ""), api.OK
}

// Parse gives the orbit with a text, or else where the text is wrong.
func Parse(t string) (api.Orbit, api.TextMark, api.Errno) {
	if len(t) > api.MaxText {
		return api.Orbit{}, api.TextMark{}, api.ErrLarge
	}
	var r reader
	line := 1
	for ; t != ""; line++ {
		text, rest, _ := strings.Cut(t, "\n")
		if column, err := r.read(wordsOf(text)); err != api.OK {
			return api.Orbit{}, api.TextMark{Line: line, Column: column}, err
		}
		t = rest
	}
	if err := r.checkEnd(); err != api.OK {
		return api.Orbit{}, api.TextMark{Line: line, Column: 1}, err
	}
	return r.orbit, api.TextMark{}, api.OK
}
