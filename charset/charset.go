// Package charset: sets of characters, as sorted ranges.
package charset

import (
	"cmp"
	"iter"
	"slices"
)

// Characters have the numbers from 0 to endOfLow and from beginOfHigh to maxChar.
const (
	endOfLow    rune = 0xD7FF
	beginOfHigh rune = 0xE000
	maxChar     rune = 0x10FFFF
)

// Set is characters. The one without a value of its own has none.
type Set struct {
	spans []span // rising, with numbers between each two that are not of the set
}

type span struct {
	first, last rune
}

// Of makes the set of all characters in ranges, each told by its first and its
// last number. The ranges may come in any order, overlap, and have numbers that
// no character has.
func Of(ranges iter.Seq2[rune, rune]) Set {
	var spans []span
	for first, last := range ranges {
		spans = appendSpan(spans, max(first, 0), min(last, endOfLow))
		spans = appendSpan(spans, max(first, beginOfHigh), min(last, maxChar))
	}
	slices.SortFunc(spans, func(a, b span) int { return cmp.Compare(a.first, b.first) })
	return Set{spans: joined(spans)}
}

func appendSpan(spans []span, first, last rune) []span {
	if first > last {
		return spans
	}
	return append(spans, span{first: first, last: last})
}

// joined makes one of spans that overlap or touch.
func joined(sorted []span) []span {
	var spans []span
	for _, s := range sorted {
		if n := len(spans); n > 0 && s.first <= spans[n-1].last+1 {
			spans[n-1].last = max(spans[n-1].last, s.last)
		} else {
			spans = append(spans, s)
		}
	}
	return spans
}

// Ranges tells the set, rising, as the first and the last number of each range.
func (s Set) Ranges() iter.Seq2[rune, rune] { return each(s.spans) }

func each(spans []span) iter.Seq2[rune, rune] {
	return func(yield func(rune, rune) bool) {
		for _, s := range spans {
			if !yield(s.first, s.last) {
				return
			}
		}
	}
}

// Not makes the set of all other characters.
func (s Set) Not() Set { return Of(s.gaps()) }

// gaps tells the ranges of numbers that are not of the set; an empty range, its
// last number below its first, may be among them.
func (s Set) gaps() iter.Seq2[rune, rune] {
	return func(yield func(rune, rune) bool) {
		begin := rune(0)
		for first, last := range s.Ranges() {
			if !yield(begin, first-1) {
				return
			}
			begin = last + 1
		}
		yield(begin, maxChar)
	}
}

// Has tells whether a character is one of the set.
func (s Set) Has(char rune) bool {
	_, found := slices.BinarySearchFunc(s.spans, char, func(r span, char rune) int {
		switch {
		case r.last < char:
			return -1
		case r.first > char:
			return 1
		}
		return 0
	})
	return found
}
