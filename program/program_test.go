package program

import (
	"slices"
	"strings"
	"testing"

	"lineal/chars"
	"lineal/charset"
	"lineal/parse"
	"lineal/part"
)

func read(t *testing.T, text string) []chars.Letter {
	t.Helper()
	letters, err := chars.Letters(text, len(text))
	if err != nil {
		t.Fatal(err)
	}
	return letters
}

// follow tells by the document's words, and without a program, where matches of
// a part end that begin at some of the places of a text.
func follow(p part.Part, text []chars.Letter, begins []bool) []bool {
	ends := make([]bool, len(begins))
	switch p := p.(type) {
	case part.Assertion:
		for i := range begins {
			ends[i] = begins[i] && holdsAt(p, text, i)
		}
	case part.Choice:
		for _, alternative := range p {
			ends = either(ends, follow(alternative, text, begins))
		}
	case part.Sequence:
		ends = begins
		for _, term := range p {
			ends = follow(term, text, ends)
		}
	case part.Repeat:
		return followRepeat(p, text, begins)
	default:
		for i, letter := range text {
			ends[i+1] = begins[i] && charset.Matched(p).Has(letter.Char)
		}
	}
	return ends
}

func followRepeat(r part.Repeat, text []chars.Letter, begins []bool) []bool {
	ends := begins
	for range r.Least {
		ends = follow(r.Part, text, ends)
	}
	more := r.Most - r.Least
	if r.Most == part.NoMost {
		more = len(begins) // no more are needed to come to every place
	}
	for range more {
		ends = either(ends, follow(r.Part, text, ends))
	}
	return ends
}

func either(a, b []bool) []bool {
	both := slices.Clone(a)
	for i := range b {
		both[i] = both[i] || b[i]
	}
	return both
}

func holdsAt(a part.Assertion, text []chars.Letter, i int) bool {
	word := func(i int) bool {
		return i >= 0 && i < len(text) && charset.Matched(part.Shorthand('w')).Has(text[i].Char)
	}
	switch a {
	case part.Begin:
		return i == 0
	case part.End:
		return i == len(text)
	case part.Edge:
		return word(i-1) != word(i)
	}
	return word(i-1) == word(i)
}

func endsByWords(p part.Part, text []chars.Letter, from int) []int {
	begins := make([]bool, len(text)+1)
	begins[from] = true
	var ends []int
	for i, end := range follow(p, text, begins) {
		if end {
			ends = append(ends, i)
		}
	}
	return ends
}

func checkEnds(t *testing.T, pattern string, p part.Part, texts [][]chars.Letter) {
	program := New(p)
	for _, text := range texts {
		for from := range len(text) + 1 {
			got, want := program.Ends(text, from), endsByWords(p, text, from)
			if !slices.Equal(got, want) {
				t.Errorf("%q in %v from %d: %v, want %v", pattern, text, from, got, want)
			}
		}
	}
}

// Every pattern of a few words, held against the document's words.
func TestAllSmallPatterns(t *testing.T) {
	words := []string{"a", "b", "(", ")", "|", "*", "+", "?", "{2}", "{0,2}", "{1,}", "^", "$", `\b`, `\B`, "[^a]"}
	var texts [][]chars.Letter
	for _, text := range []string{"", "a", " ", "ab", "a b", "baab", "aaa"} {
		texts = append(texts, read(t, text))
	}
	var extend func(pattern string, more int)
	extend = func(pattern string, more int) {
		if p, err := parse.Pattern(pattern); err == nil {
			checkEnds(t, pattern, p, texts)
		}
		if more == 0 || t.Failed() {
			return
		}
		for _, word := range words {
			extend(pattern+word, more-1)
		}
	}
	extend("", 4)
}

// Patterns too long for the test above, with things within one another.
func TestLargerPatterns(t *testing.T) {
	inner := []string{"", "a", "a*", "a|", "ab|a", "^a?", "b$", `\ba|b`, `\B.`, "(a|b){2}", "a{0}", "(^|a)+b", "[]", `\w\W?`}
	outer := []string{"*", "+", "?", "{2}", "{3,}", "{1,3}", "{0}", ""}
	var texts [][]chars.Letter
	for _, text := range []string{"", "abab", "aabb", "a ba", "é\nb"} {
		texts = append(texts, read(t, text))
	}
	for _, first := range inner {
		for _, second := range inner {
			for _, one := range outer {
				for _, two := range outer {
					pattern := "((" + first + ")" + one + "(?:" + second + ")b?)" + two + "a?"
					p, err := parse.Pattern(pattern)
					if err != nil {
						t.Fatalf("%q: %v", pattern, err)
					}
					checkEnds(t, pattern, p, texts)
				}
			}
		}
	}
}

// What a run costs at each character hangs on the number of steps.
func TestNoMoreStepsThanTheSize(t *testing.T) {
	for _, pattern := range []string{
		"", "a", "a*b", "(?:ab|c)+", "a{2,3}", "a{100}", "a{0,100}", "a{100,}", "(ab){0,}", "(a|b|c){3,}", "x{0}", "(()*)*", "(){100,}", "(){0,100}", "((a{0}){100}){50,100}",
		`^[a-z]{1,20}(\.\w+)*$`, "(((a?){3}){3}){3}", "((((a{100}){100}){100}){100}){0}b*",
		strings.Repeat("(", 10) + "a{0}" + strings.Repeat("){100}", 10), strings.Repeat("(", 10) + strings.Repeat("){100}", 10) + "b",
	} {
		p, err := parse.Pattern(pattern)
		if err != nil {
			t.Fatalf("%q: %v", pattern, err)
		}
		if steps, size := len(New(p).steps), part.PatternSize(p); steps > size {
			t.Errorf("%q has %d steps, and the size %d", pattern, steps, size)
		}
	}
}
