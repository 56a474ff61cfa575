package program

import (
	"iter"
	"slices"

	"lineal/charset"
)

// Group tells the number of a character's group. All characters of a group lead
// from each state to the same one.
func (p *Program) Group(char rune) int {
	group, atCut := slices.BinarySearch(p.cuts, char)
	if atCut {
		group++
	}
	return group
}

// cutsOf tells the numbers, rising, between which no set begins or ends.
func cutsOf(sets iter.Seq[charset.Set]) []rune {
	var cuts []rune
	for set := range sets {
		for first, last := range set.Ranges() {
			cuts = append(cuts, first, last+1)
		}
	}
	slices.Sort(cuts)
	return slices.Compact(cuts)
}

// sets tells the sets of which the program may ask whether they have a character.
func (p *Program) sets() iter.Seq[charset.Set] {
	return func(yield func(charset.Set) bool) {
		if !yield(p.word) {
			return
		}
		for _, s := range p.steps {
			if !yield(s.set) {
				return
			}
		}
	}
}
