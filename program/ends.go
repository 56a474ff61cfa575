package program

import (
	"slices"

	"lineal/chars"
	"lineal/part"
)

// Ends tells all numbers of characters, rising, that stand ahead where a match
// ends that begins behind from characters.
func (p *Program) Ends(text []chars.Letter, from int) []int {
	var ends []int
	begins := []int{p.start}
	for at := from; len(begins) > 0; at++ {
		reached := p.reach(begins, p.around(text, at))
		if slices.Contains(reached, matched) {
			ends = append(ends, at)
		}
		if at == len(text) {
			break
		}
		begins = p.take(reached, text[at].Char)
	}
	return ends
}

// reach tells all places to which one can come from some without taking a
// character, these too, each once.
func (p *Program) reach(begins []int, here spot) []int {
	var reached []int
	seen := make([]bool, len(p.steps))
	visit := func(place int) {
		if !seen[place] {
			seen[place] = true
			reached = append(reached, place)
		}
	}
	for _, place := range begins {
		visit(place)
	}
	for i := 0; i < len(reached); i++ {
		switch s := &p.steps[reached[i]]; s.kind {
		case test:
			if here.holds(s.assertion) {
				visit(s.next)
			}
		case fork:
			visit(s.next)
			visit(s.other)
		}
	}
	return reached
}

// take tells the places behind those that take a character.
func (p *Program) take(reached []int, char rune) []int {
	var taken []int
	for _, place := range reached {
		if s := &p.steps[place]; s.kind == taker && s.set.Has(char) {
			taken = append(taken, s.next)
		}
	}
	return taken
}

// spot is what assertions ask of a place in a text.
type spot struct {
	begin, end            bool
	wordBefore, wordAfter bool
}

func (p *Program) around(text []chars.Letter, at int) spot {
	here := spot{begin: at == 0, end: at == len(text)}
	if !here.begin {
		here.wordBefore = p.word.Has(text[at-1].Char)
	}
	if !here.end {
		here.wordAfter = p.word.Has(text[at].Char)
	}
	return here
}

func (s spot) holds(a part.Assertion) bool {
	switch a {
	case part.Begin:
		return s.begin
	case part.End:
		return s.end
	case part.Edge:
		return s.wordBefore != s.wordAfter
	}
	return s.wordBefore == s.wordAfter
}
