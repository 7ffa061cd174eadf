package stack

import (
	"strconv"
	"strings"

	"swath/api"
)

const (
	sceneWord  = "scene"
	pairWord   = "pair"
	maxWritten = 9999999
)

// Print gives the text of a stack.
func Print(s api.StackNet) (string, api.Errno) {
	if _, err := CheckNet(s); err != api.OK {
		return "", err
	}
	var text strings.Builder
	for _, scene := range s.Scenes {
		text.WriteString(line(sceneWord, scene.Name, strconv.Itoa(scene.Day), strconv.Itoa(scene.Baseline)))
	}
	for _, p := range s.Pairs {
		text.WriteString(line(pairWord, strconv.Itoa(p.First), strconv.Itoa(p.Second)))
	}
	return text.String(), api.OK
}

func line(words ...string) string {
	return strings.Join(words, " ") + "\n"
}

// Parse gives the stack with a text, or else the number of the first line that has not its form.
func Parse(t string) (api.StackNet, int, api.Errno) {
	if len(t) > api.MaxText {
		return api.StackNet{}, 0, api.ErrLarge
	}
	s, wrong := readStack(t)
	if wrong > 0 {
		return api.StackNet{}, wrong, api.ErrSyntax
	}
	if _, err := CheckNet(s); err != api.OK {
		return api.StackNet{}, 0, err
	}
	return s, 0, api.OK
}

// readStack gives the stack with a text, or else the number of the first wrong line.
func readStack(t string) (api.StackNet, int) {
	var s api.StackNet
	for number := 1; t != ""; number++ {
		line, rest, ended := strings.Cut(t, "\n")
		if !ended || !readLine(&s, line) {
			return api.StackNet{}, number
		}
		t = rest
	}
	return s, 0
}

// readLine adds to a stack what a line says, and tells whether the line has its form.
func readLine(s *api.StackNet, line string) bool {
	words := strings.Split(line, " ")
	if len(words) < 3 {
		return false
	}
	names, first, second := words[:len(words)-2], words[len(words)-2], words[len(words)-1]
	a, firstOK := readNumber(first)
	b, secondOK := readNumber(second)
	switch {
	case !firstOK || !secondOK:
		return false
	case names[0] == sceneWord && len(names) == 2 && len(s.Pairs) == 0:
		s.Scenes = append(s.Scenes, api.StackScene{Name: names[1], Day: a, Baseline: b})
	case names[0] == pairWord && len(names) == 1:
		s.Pairs = append(s.Pairs, api.StackPair{First: a, Second: b})
	default:
		return false
	}
	return true
}

// readNumber takes a word only if the number is written thus: so it has no leading zeros, no "+" and no "-0".
func readNumber(word string) (int, bool) {
	n, err := strconv.Atoi(word)
	return n, err == nil && withinSize(n, maxWritten) && strconv.Itoa(n) == word
}
