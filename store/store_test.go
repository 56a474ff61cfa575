package store

import (
	"slices"
	"strings"
	"testing"

	"lineal/chars"
	"lineal/parse"
	"lineal/program"
)

func programOf(t *testing.T, pattern string) *program.Program {
	t.Helper()
	p, err := parse.Pattern(pattern)
	if err != nil {
		t.Fatalf("%q: %v", pattern, err)
	}
	return program.New(p)
}

func read(t *testing.T, text string) []chars.Letter {
	t.Helper()
	letters, err := chars.Letters(text, len(text))
	if err != nil {
		t.Fatal(err)
	}
	return letters
}

func matchesSomewhere(p *program.Program, text []chars.Letter) bool {
	for from := range len(text) + 1 {
		if len(p.Ends(text, from)) > 0 {
			return true
		}
	}
	return false
}

// checkFinds asks one store for all texts, so that each finds what the others
// have left there.
func checkFinds(t *testing.T, pattern string, p *program.Program, texts [][]chars.Letter) {
	for _, most := range []int{2, 3, 4, 64} {
		s := New(p, most)
		for _, empties := range [][]int{nil, {0, 1, 2, 3, 4}, {1}, {0, 3}} {
			for _, text := range texts {
				got, want := s.Find(text, empties), matchesSomewhere(p, text)
				if got != want || s.Live() < 1 || s.Live() > most {
					t.Errorf("%q in %v, %v: %v, want %v, with %d states of %d", pattern, text, empties, got, want, s.Live(), most)
				}
				checkWhole(t, s)
			}
		}
	}
}

// checkWhole looks whether a store knows of no state but those that it has, and
// each by its key.
func checkWhole(t *testing.T, s *Store) {
	if len(s.numbers) != len(s.states) {
		t.Errorf("%d keys of %d states", len(s.numbers), len(s.states))
	}
	for number, known := range s.states {
		if found, ok := s.numbers[known.Key()]; !ok || found != number {
			t.Errorf("the state %d is found at %d", number, found)
		}
		for group, next := range known.next {
			if next < 0 || next >= len(s.states) {
				t.Errorf("the group %d leads from %d to %d", group, number, next)
			}
		}
	}
}

// Every pattern of a few words, held against where its matches end.
func TestAllSmallPatterns(t *testing.T) {
	words := []string{"a", "b", "(", ")", "|", "*", "+", "?", "{2}", "^", "$", `\b`, `\B`, "[^a]"}
	var texts [][]chars.Letter
	for _, text := range []string{"", "a", " ", "ab", "a b", "é", "baab", " ba"} {
		texts = append(texts, read(t, text))
	}
	var extend func(pattern string, more int)
	extend = func(pattern string, more int) {
		if _, err := parse.Pattern(pattern); err == nil {
			checkFinds(t, pattern, programOf(t, pattern), texts)
		}
		if more == 0 || t.Failed() {
			return
		}
		for _, word := range words {
			extend(pattern+word, more-1)
		}
	}
	extend("", 3)
}

func TestLargerPatterns(t *testing.T) {
	var texts [][]chars.Letter
	for _, text := range []string{"", "abab", "aabb", "a ba", "é\nb", "__ a", "bbbbaba", "😀a"} {
		texts = append(texts, read(t, text))
	}
	inner := []string{"", "a", "ab|a", "^a?", "b$", `\ba|b`, `\B.`, "a{0}", "(^|a)+b", "[]", `\w\W?`}
	for _, first := range inner {
		for _, second := range inner {
			for _, quantifier := range []string{"*", "{2}", "{1,3}", "?"} {
				pattern := "((" + first + ")" + quantifier + "(?:" + second + ")b?)" + quantifier + "a"
				checkFinds(t, pattern, programOf(t, pattern), texts)
			}
		}
	}
}

// live tells how many states there are behind a Find in a new store for 64.
func live(t *testing.T, pattern, text string, empties ...int) int {
	t.Helper()
	s := New(programOf(t, pattern), 64)
	s.Find(read(t, text), empties)
	return s.Live()
}

func TestStatesAreFoundAgain(t *testing.T) {
	for _, c := range []struct {
		pattern, text string
		want          int
	}{
		{"b", strings.Repeat("a", 100), 2},
		{"b", strings.Repeat("a é\n", 30), 2},
		{"b", "ab" + strings.Repeat("abc", 30), 4},
		{"abc", strings.Repeat("ab", 50), 3},
		{`\bb`, strings.Repeat("a ", 50), 3},
		{"", strings.Repeat("a", 50), 2},
		{"", "", 1},
	} {
		if got := live(t, c.pattern, c.text); got != c.want {
			t.Errorf("%q: %d states, want %d", c.pattern, got, c.want)
		}
		s := New(programOf(t, c.pattern), 64)
		for range 3 {
			s.Find(read(t, c.text), nil)
		}
		if s.Live() != c.want {
			t.Errorf("%q, asked again: %d states, want %d", c.pattern, s.Live(), c.want)
		}
	}
}

// The states behind the last character tell where the store was emptied: only
// those that were made from there on are left.
func TestEmptiedAheadOfACharacter(t *testing.T) {
	text := "é23456" // leads from state to state, of which no two are alike
	for _, c := range []struct {
		empties []int
		want    int
	}{
		{nil, 7}, {[]int{0}, 7}, {[]int{1}, 6}, {[]int{2}, 5}, {[]int{4}, 3}, {[]int{5}, 2}, {[]int{6}, 7}, {[]int{7, -1, 1 << 40}, 7},
		{[]int{5, 1}, 2}, {[]int{1, 5}, 2}, {[]int{3, 3, 3}, 4}, {[]int{0, 1, 2, 3, 4, 5, -7}, 2},
	} {
		if got := live(t, "é234567", text, c.empties...); got != c.want {
			t.Errorf("%v: %d states, want %d", c.empties, got, c.want)
		}
	}
}

func TestEmptiedAheadOfTheFirstCharacter(t *testing.T) {
	for _, c := range []struct {
		empties []int
		want    int
	}{{nil, 7}, {[]int{-1, 1}, 7}, {[]int{0}, 2}} {
		s := New(programOf(t, "1234567"), 64)
		s.Find(read(t, "123456"), nil)
		s.Find(read(t, "1"), c.empties)
		if s.Live() != c.want {
			t.Errorf("%v: %d states, want %d", c.empties, s.Live(), c.want)
		}
	}
}

// A way from one state to the next is worked out once, as long as both are there.
func TestWaysAreKept(t *testing.T) {
	s := New(programOf(t, "ab"), 64)
	s.Find(read(t, "caxcaé"), nil)
	var ways []int
	for _, known := range s.states {
		ways = append(ways, len(known.next))
	}
	if !slices.Equal(ways, []int{1, 2, 1}) { // by c; by a and c; by x and é, which are of one group
		t.Errorf("ways from each state: %v", ways)
	}
}

func TestEmptiedBehindAMatchToo(t *testing.T) {
	if got := live(t, "123", "012345", 5); got != 1 {
		t.Errorf("%d states, want that behind a match alone", got)
	}
}

func TestEmptiedWhenFull(t *testing.T) {
	p := programOf(t, "1234567")
	for _, c := range []struct {
		most int
		want []int // behind 0 characters, behind 1, and so forth
	}{
		{2, []int{1, 2, 2, 2, 2, 2, 2}}, {3, []int{1, 2, 3, 2, 3, 2, 3}}, {4, []int{1, 2, 3, 4, 2, 3, 4}}, {7, []int{1, 2, 3, 4, 5, 6, 7}},
	} {
		for count, want := range c.want {
			s := New(p, c.most)
			s.Find(read(t, "123456"[:count]), nil)
			if s.Live() != want {
				t.Errorf("of %d, behind %d characters: %d states, want %d", c.most, count, s.Live(), want)
			}
			checkWhole(t, s)
		}
	}
}

// A full store has no room for the first state, which it may have no more.
func TestFullStoreAheadOfATextWithoutACharacter(t *testing.T) {
	s := New(programOf(t, "abc$|^$"), 2)
	s.Find(read(t, "ab"), nil)
	if s.Live() != 2 || !s.Find(nil, nil) || s.Live() != 1 {
		t.Errorf("%d states", s.Live())
	}
	checkWhole(t, s)
}

func TestListsAreNotWrittenInto(t *testing.T) {
	text, empties := read(t, "abab"), []int{3, 9, -1, 1, 1}
	s := New(programOf(t, "aba"), 2)
	s.Find(text, empties)
	if !slices.Equal(text, read(t, "abab")) || !slices.Equal(empties, []int{3, 9, -1, 1, 1}) {
		t.Errorf("%v, %v", text, empties)
	}
}
