package program

import (
	"slices"
	"testing"
	"unicode/utf8"

	"lineal/parse"
)

func programOf(t *testing.T, pattern string) *Program {
	t.Helper()
	p, err := parse.Pattern(pattern)
	if err != nil {
		t.Fatalf("%q: %v", pattern, err)
	}
	return New(p)
}

// search tells what was found, by states alone, and in which states it was.
func search(p *Program, text string) (bool, []State) {
	now := p.First()
	states := []State{now}
	for _, char := range text {
		now = p.After(now, char)
		states = append(states, now)
	}
	return p.MatchedAtEnd(now), states
}

func matchesSomewhere(t *testing.T, p *Program, text string) bool {
	t.Helper()
	letters := read(t, text)
	for from := range len(letters) + 1 {
		if len(p.Ends(letters, from)) > 0 {
			return true
		}
	}
	return false
}

func TestSearchesByStates(t *testing.T) {
	for _, pattern := range []string{"", "a", "ab|ba", "(a|b)*abb", "^a", "a$", "^$", `\ba`, `a\b`, `\Ba`, `a\B`, `\b`, `\B`, "^a*$", "[]", "[^]", `(^|\b)a(\B|$)`, "a{3}", `é\bé|a\bé`, "(|a)+b", `^\B|\b$`} {
		p := programOf(t, pattern)
		for _, text := range []string{"", "a", "b", " ", "é", "ab", "ba", " a", "a ", "aé", "éé", "aaab", "abb", "babab", "bababb", "a b a", "\n", "b\na"} {
			want := matchesSomewhere(t, p, text)
			if got, _ := search(p, text); got != want {
				t.Errorf("%q in %q: %v", pattern, text, got)
			}
		}
	}
}

func TestOneStateBehindAMatch(t *testing.T) {
	for _, c := range []struct {
		pattern, text string
		from          int // one more than the characters ahead of the first match's end
	}{
		{"", "abc", 1}, {"a|b*c", "xabbca", 3}, {`a\b`, "xa bc", 3}, {`\bx`, "xxab", 2}, {"b|a+", "caab", 3}, {"^", "ab", 1}, {"$", "ab", 3},
	} {
		_, states := search(programOf(t, c.pattern), c.text)
		for i, s := range states {
			if found := s.Key() == " 0"; found != (i >= c.from) {
				t.Errorf("%q in %q: behind %d characters: %q", c.pattern, c.text, i, s.Key())
			}
		}
	}
}

// What stands before is of no matter to a program that does not ask for it.
func TestStatesAlikeWhereNoWordsAreAskedFor(t *testing.T) {
	_, states := search(programOf(t, "^x|z$"), "a é_ ")
	for _, s := range states[1:] {
		if s.Key() != states[1].Key() {
			t.Errorf("%q beside %q", s.Key(), states[1].Key())
		}
	}
}

func TestKeys(t *testing.T) {
	different := []State{
		{}, {places: []int{1}}, {places: []int{1, 2}}, {places: []int{12}}, {places: []int{1, 23}}, {places: []int{12, 3}}, {places: []int{123}}, {places: []int{1, 2, 3}},
		{places: []int{1}, begin: true}, {places: []int{1}, wordBefore: true}, {begin: true}, {wordBefore: true},
	}
	var keys []string
	for _, s := range different {
		if again := (State{places: slices.Clone(s.places), begin: s.begin, wordBefore: s.wordBefore}); again.Key() != s.Key() {
			t.Errorf("%v has the keys %q and %q", s, s.Key(), again.Key())
		}
		if slices.Contains(keys, s.Key()) {
			t.Errorf("%v has the key of another: %q", s, s.Key())
		}
		keys = append(keys, s.Key())
	}
}

// The same places have the same key, in whatever way they were come to.
func TestPlacesOfAStateAreSorted(t *testing.T) {
	for _, pattern := range []string{"(a|b|a*)(ab|ba|bb)c", "(ab?){2,3}c", "(a?){9}c", "(a|.)(.|[ab])c"} {
		_, states := search(programOf(t, pattern), "abbaabababbbaaab")
		for _, s := range states {
			if !slices.IsSorted(s.places) || len(slices.Compact(slices.Clone(s.places))) != len(s.places) {
				t.Errorf("%q: %v", pattern, s.places)
			}
		}
	}
}

func TestCharactersOfAGroupAreAlike(t *testing.T) {
	for _, pattern := range []string{"", "a", "[^]", "[]", "[a-cx]|[b-z]", `\b`, `\B.`, `\w\W\s\S\d\D`, `[^\s-]é`, `\0|\u{10FFFF}`, `\uD7FF\uE000`, "[\\0-a][b-\\u{10FFFF}]", `\uD83D`} {
		p := programOf(t, pattern)
		groups := map[int][]bool{}
		last := 0
		for char := rune(0); char <= utf8.MaxRune; char++ {
			if !utf8.ValidRune(char) {
				continue
			}
			var has []bool
			for set := range p.sets() {
				has = append(has, set.Has(char))
			}
			group := p.Group(char)
			if known, ok := groups[group]; ok && !slices.Equal(known, has) || group < last {
				t.Fatalf("%q: U+%04X is of the group %d", pattern, char, group)
			}
			groups[group], last = has, group
		}
	}
}

func TestFewGroups(t *testing.T) {
	for _, c := range []struct {
		pattern string
		most    int
	}{{"", 0}, {"a{100}", 2}, {"[^]*", 3}, {"[a-m][n-z]", 3}, {`\b`, 8}} {
		if p := programOf(t, c.pattern); p.Group(utf8.MaxRune) > c.most {
			t.Errorf("%q: U+10FFFF is of the group %d", c.pattern, p.Group(utf8.MaxRune))
		}
	}
}

func TestSetsStopWhenNoMoreAreWanted(t *testing.T) {
	p := programOf(t, "ab")
	for most := range 4 {
		given := 0
		for range p.sets() {
			given++
			if given > most {
				break
			}
		}
		if given != most+1 {
			t.Errorf("gave %d", given)
		}
	}
}
