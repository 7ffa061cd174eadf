package orbit

import (
	"strings"

	"swath/api"
)

// word is a word of a line; its column is that of its first byte.
type word struct {
	text   string
	column int
}

// form tells of each word of a line what it may be.
type form []func(text string) api.Errno

// reader is the orbit as far as its lines have been read.
type reader struct {
	orbit api.Orbit
	begun bool
}

func wordsOf(line string) []word {
	line, _, _ = strings.Cut(line, comment)
	var words []word
	begin := 0
	for i := range len(line) + 1 {
		if i < len(line) && line[i] != ' ' && line[i] != '\t' {
			continue
		}
		if i > begin {
			words = append(words, word{line[begin:i], begin + 1})
		}
		begin = i + 1
	}
	return words
}

// end gives the column behind the last byte.
func (w word) end() int { return w.column + len(w.text) }

// number gives the number of a word that has been checked to be one.
func (w word) number() int {
	n, _ := readNumber(w.text)
	return n
}

// read takes the words of one line, or else tells the column at which they are wrong.
func (r *reader) read(words []word) (int, api.Errno) {
	switch {
	case len(words) == 0:
		return 0, api.OK
	case !r.begun:
		return r.readOrbit(words)
	}
	return r.readState(words)
}

func (r *reader) readOrbit(words []word) (int, api.Errno) {
	if column, err := orbitForm().check(words); err != api.OK {
		return column, err
	}
	bend := words[3].number()
	if !isError(bend) {
		return words[3].column, api.ErrRange
	}
	r.begun = true
	r.orbit = api.Orbit{Name: words[1].text, Bend: bend}
	return 0, api.OK
}

func (r *reader) readState(words []word) (int, api.Errno) {
	if column, err := stateForm().check(words); err != api.OK {
		return column, err
	}
	if len(r.orbit.States) == api.MaxStates {
		return words[0].column, api.ErrLarge
	}
	var numbers [stateNumbers]int
	for i, w := range words[1:] {
		numbers[i] = w.number()
		if err := r.checkNumber(i, numbers[i]); err != api.OK {
			return w.column, err
		}
	}
	r.orbit.States = append(r.orbit.States, stateOf(numbers))
	return 0, api.OK
}

// checkNumber looks at the number i of a state's text.
func (r *reader) checkNumber(i, n int) api.Errno {
	switch i {
	case 0:
		return firstError(errorIf(!isTick(n), api.ErrRange), checkBehind(r.orbit.States, n))
	case stateNumbers - 1:
		return errorIf(!isError(n), api.ErrRange)
	}
	return errorIf(!isCoordinate(n), api.ErrRange)
}

// checkEnd looks at what all lines together have not said.
func (r *reader) checkEnd() api.Errno {
	return firstError(
		errorIf(!r.begun, api.ErrMissing),
		errorIf(len(r.orbit.States) < leastStates, api.ErrShape),
	)
}

func orbitForm() form {
	return form{keyword(orbitWord), checkName, keyword(bendWord), checkNumber}
}

func stateForm() form {
	f := form{keyword(stateWord)}
	for range stateNumbers {
		f = append(f, checkNumber)
	}
	return f
}

// check tells the column of the first word that has not its form; one that is missing is told behind the last one.
func (f form) check(words []word) (int, api.Errno) {
	for i, checkWord := range f {
		if i == len(words) {
			return words[i-1].end(), api.ErrMissing
		}
		if err := checkWord(words[i].text); err != api.OK {
			return words[i].column, err
		}
	}
	if len(words) > len(f) {
		return words[len(f)].column, api.ErrSyntax
	}
	return 0, api.OK
}

func keyword(want string) func(string) api.Errno {
	return func(text string) api.Errno { return errorIf(text != want, api.ErrSyntax) }
}

func checkName(text string) api.Errno {
	return errorIf(!isName(text), api.ErrName)
}

func checkNumber(text string) api.Errno {
	_, ok := readNumber(text)
	return errorIf(!ok, api.ErrSyntax)
}
