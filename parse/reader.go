package parse

import (
	"lineal/chars"
	"lineal/fault"
)

// reader goes through the characters of a pattern.
type reader struct {
	letters []chars.Letter
	next    int
	length  int // of the pattern, in bytes
	depth   int // how many groups are open
}

// noChar is what peek tells at the end.
const noChar rune = -1

func (r *reader) atEnd() bool { return r.next == len(r.letters) }

func (r *reader) peek() rune { return r.ahead(0) }

// ahead tells the character that stands a number of others behind the next.
func (r *reader) ahead(others int) rune {
	if i := r.next + others; i < len(r.letters) {
		return r.letters[i].Char
	}
	return noChar
}

// place tells the place of the next character, or the pattern's length.
func (r *reader) place() int {
	if r.atEnd() {
		return r.length
	}
	return r.letters[r.next].At
}

// wrong is the fault of a next character, or an end, that can't stand here.
func (r *reader) wrong() error { return fault.New(fault.Syntax, r.place()) }

// take moves behind a word of ASCII characters, if it stands next.
func (r *reader) take(word string) bool {
	for i := range len(word) {
		if r.ahead(i) != rune(word[i]) {
			return false
		}
	}
	r.next += len(word)
	return true
}
