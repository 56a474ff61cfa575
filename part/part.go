// Package part: the parts that a pattern is made of, and their sizes.
package part

import "lineal/api"

// Part is one of the types of this package that follow.
type Part interface {
	part()
}

// Assertion matches between characters, none of them.
type Assertion int

const (
	Begin   Assertion = iota // ^
	End                      // $
	Edge                     // \b
	Between                  // \B
)

// Any is the dot.
type Any struct{}

// Char is the number of a character that stands for itself, or of an escape;
// an escape's may be one that no character has.
type Char rune

// Shorthand is an escape of many characters: one of d, D, w, W, s, S.
type Shorthand rune

// Class matches one character: of its members, or, with Not, of all others.
type Class struct {
	Not        bool
	Ranges     []Range
	Shorthands []Shorthand
}

// Range is the numbers from First to Last; one alone is both.
type Range struct {
	First, Last Char
}

// Choice is alternatives, at least one.
type Choice []Part

// Sequence is terms one behind the other, or none.
type Sequence []Part

// Repeat is a part with its quantifier.
type Repeat struct {
	Part        Part
	Least, Most int // Most may be NoMost
}

// NoMost stands for a quantifier without an upper end.
const NoMost = -1

func (Assertion) part() {}
func (Any) part()       {}
func (Char) part()      {}
func (Shorthand) part() {}
func (Class) part()     {}
func (Choice) part()    {}
func (Sequence) part()  {}
func (Repeat) part()    {}

// tooBig stands for every size above MaxSize: true sizes would overflow where
// counts stand within one another.
const tooBig = api.MaxSize + 1

// PatternSize tells the size of the pattern that has these alternatives; one
// that is above MaxSize is told as some number above it.
func PatternSize(alternatives Part) int {
	return min(size(alternatives)+1, tooBig)
}

func size(p Part) int {
	switch p := p.(type) {
	case Assertion, Any, Char, Shorthand, Class:
		return 1
	case Choice:
		return min(sum(p)+len(p)-1, tooBig)
	case Sequence:
		return sum(p)
	case Repeat:
		return min(repeatSize(p), tooBig)
	}
	return 0
}

func sum(parts []Part) int {
	total := 0
	for _, p := range parts {
		total = min(total+size(p), tooBig)
	}
	return total
}

// repeatSize needs no rule of its own for *, + and ?: they have the sizes of
// {0,}, {1,} and {0,1}.
func repeatSize(r Repeat) int {
	once := size(r.Part)
	if r.Most == NoMost {
		return max(r.Least, 1)*once + 1
	}
	return r.Least*once + (r.Most-r.Least)*(once+1)
}
