// Package chars: the characters of a text, read from its bytes.
package chars

import (
	"iter"
	"unicode/utf8"

	"lineal/fault"
)

// Each gives every character of a text with its place. It stops at bytes that
// are no character: the first bad byte is the place behind the last one given.
func Each(text string) iter.Seq2[int, rune] {
	return func(yield func(int, rune) bool) {
		m := machine{text: text}
		for m.read() && yield(m.at, m.char) {
		}
	}
}

// Letter is a character with the place where its bytes begin.
type Letter struct {
	At   int
	Char rune
}

// Letters tells all characters of a text. It is a fault if the text has more
// than most bytes, at that place, or else if it has a bad byte, at the first.
func Letters(text string, most int) ([]Letter, error) {
	if len(text) > most {
		return nil, fault.New(fault.Long, most)
	}
	var letters []Letter
	end := 0
	for at, char := range Each(text) {
		letters = append(letters, Letter{At: at, Char: char})
		end = at + utf8.RuneLen(char)
	}
	if end < len(text) {
		return nil, fault.New(fault.Text, end)
	}
	return letters, nil
}
