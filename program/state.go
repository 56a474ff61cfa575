package program

import (
	"slices"
	"strconv"
)

// State is where a search stands, one that begins anew ahead of every character:
// places in the program, and what stands before, since assertions ask for it as
// soon as the next character is known.
type State struct {
	places     []int // rising, each once
	begin      bool
	wordBefore bool
}

// First is the state ahead of a text.
func (p *Program) First() State {
	return State{places: []int{p.start}, begin: true}
}

// After is the state to which a character leads. Where a match ended ahead of it,
// that is always the same one, and no character leads away from there: what comes
// no longer matters.
func (p *Program) After(s State, char rune) State {
	word := p.word.Has(char)
	reached := p.reach(s.places, spot{begin: s.begin, wordBefore: s.wordBefore, wordAfter: word})
	if slices.Contains(reached, matched) {
		return State{places: []int{matched}}
	}
	places := append(p.take(reached, char), p.start)
	slices.Sort(places)
	return State{places: slices.Compact(places), wordBefore: word}
}

// MatchedAtEnd tells whether there was a match, if the text ends here.
func (p *Program) MatchedAtEnd(s State) bool {
	reached := p.reach(s.places, spot{begin: s.begin, end: true, wordBefore: s.wordBefore})
	return slices.Contains(reached, matched)
}

// Key is a text that no other state of the program has.
func (s State) Key() string {
	var key []byte
	if s.begin {
		key = append(key, '^')
	}
	if s.wordBefore {
		key = append(key, 'w')
	}
	for _, place := range s.places {
		key = strconv.AppendInt(append(key, ' '), int64(place), 10)
	}
	return string(key)
}
