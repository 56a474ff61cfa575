package lineal

import (
	"math"
	"slices"
	"strings"
	"testing"

	"lineal/api"
)

func compiled(t *testing.T, pattern string) *Pattern {
	t.Helper()
	p, e, at := Compile(pattern)
	if p == nil || e != api.OK || at != 0 {
		t.Fatalf("P3: Compile(%q) = %v, %d, %d", pattern, p, e, at)
	}
	return p
}

// checkEnds asks twice, since nothing may hang on what was asked before.
func checkEnds(t *testing.T, pattern, text string, from int, want ...int) {
	t.Helper()
	p := compiled(t, pattern)
	for range 2 {
		got, e, at := p.Ends(text, from)
		if !slices.Equal(got, want) || e != api.OK || at != 0 {
			t.Errorf("P5: %q: Ends(%q, %d) = %v, %d, %d, want %v", pattern, text, from, got, e, at, want)
		}
	}
}

// checkAll tells the ends from 0 on, from 1 on, and so forth, up to the text's end.
func checkAll(t *testing.T, pattern, text string, want ...[]int) {
	t.Helper()
	if len(want) != len([]rune(text))+1 {
		t.Fatalf("%q in %q: %d lists", pattern, text, len(want))
	}
	for from, ends := range want {
		checkEnds(t, pattern, text, from, ends...)
	}
}

// upTo is the numbers from first to last.
func upTo(first, last int) []int {
	var all []int
	for i := first; i <= last; i++ {
		all = append(all, i)
	}
	return all
}

type l = []int

func TestEndsOfTermsAndAlternatives(t *testing.T) {
	checkAll(t, "", "ab", l{0}, l{1}, l{2})
	checkAll(t, "", "", l{0})
	checkAll(t, "a", "aba", l{1}, nil, l{3}, nil)
	checkAll(t, "ab", "abab", l{2}, nil, l{4}, nil, nil)
	checkAll(t, "a|b", "abc", l{1}, l{2}, nil, nil)
	checkAll(t, "|a", "ab", l{0, 1}, l{1}, l{2})
	checkAll(t, "abc|ab|a|", "abcd", l{0, 1, 2, 3}, l{1}, l{2}, l{3}, l{4})
	checkAll(t, "(a|ab)(c|bcd)?", "abcd", l{1, 2, 3, 4}, nil, nil, nil, nil)
	checkAll(t, "(?:a|(b|c))d", "adbdcd", l{2}, nil, l{4}, nil, l{6}, nil, nil)
	checkAll(t, "(()|())", "a", l{0}, l{1})
	checkAll(t, "x", "", nil)
}

func TestEndsOfQuantifiers(t *testing.T) {
	checkAll(t, "a*", "aab", l{0, 1, 2}, l{1, 2}, l{2}, l{3})
	checkAll(t, "a+", "aab", l{1, 2}, l{2}, nil, nil)
	checkAll(t, "a?", "aab", l{0, 1}, l{1, 2}, l{2}, l{3})
	checkAll(t, "a{2}", "aaa", l{2}, l{3}, nil, nil)
	checkAll(t, "a{2,}", "aaaa", l{2, 3, 4}, l{3, 4}, l{4}, nil, nil)
	checkAll(t, "a{0,}", "aa", l{0, 1, 2}, l{1, 2}, l{2})
	checkAll(t, "a{1,2}", "aaa", l{1, 2}, l{2, 3}, l{3}, nil)
	checkAll(t, "a{0,2}", "aaa", l{0, 1, 2}, l{1, 2, 3}, l{2, 3}, l{3})
	checkAll(t, "a{0}", "aa", l{0}, l{1}, l{2})
	checkAll(t, "a{0,0}b", "ab", nil, l{2}, nil)
	checkAll(t, "a{1}", "aa", l{1}, l{2}, nil)
	checkAll(t, "(ab|c){2,3}", "abccab", l{3, 4}, nil, l{4, 6}, l{6}, nil, nil, nil)
	checkAll(t, "(a{2}){2,}", "aaaaaaa", l{4, 6}, l{5, 7}, l{6}, l{7}, nil, nil, nil, nil)
	checkAll(t, "(a{2}|a{3}){1,2}", "aaaaaaa", l{2, 3, 4, 5, 6}, l{3, 4, 5, 6, 7}, l{4, 5, 6, 7}, l{5, 6, 7}, l{6, 7}, l{7}, nil, nil)
	checkAll(t, "a{2,3}b{1,}", "aaabb", l{4, 5}, l{4, 5}, nil, nil, nil, nil)
	checkEnds(t, "a{100}", strings.Repeat("a", 101), 1, 101)
	checkEnds(t, "a{100}", strings.Repeat("a", 101), 2)
	checkEnds(t, "a{100,}", strings.Repeat("a", 103), 1, 101, 102, 103)
	checkEnds(t, "a{99,100}", strings.Repeat("a", 200), 50, 149, 150)
}

func TestQuestionMarkBehindAQuantifierSaysNothing(t *testing.T) {
	for _, quantifier := range []string{"*", "+", "?", "{2}", "{1,}", "{1,2}", "{0,3}"} {
		for from := range 5 {
			greedy, _, _ := compiled(t, "a"+quantifier).Ends("aaaa", from)
			checkEnds(t, "a"+quantifier+"?", "aaaa", from, greedy...)
		}
	}
}

func TestEmptyMatchesAgainAndAgain(t *testing.T) {
	checkAll(t, "(a*)*", "aaa", l{0, 1, 2, 3}, l{1, 2, 3}, l{2, 3}, l{3})
	checkAll(t, "(a*)+", "ab", l{0, 1}, l{1}, l{2})
	checkAll(t, "((a?)*)*b", "aab", l{3}, l{3}, l{3}, nil)
	checkAll(t, "(a|)+", "aa", l{0, 1, 2}, l{1, 2}, l{2})
	checkAll(t, "(|a){3}", "aaaa", l{0, 1, 2, 3}, l{1, 2, 3, 4}, l{2, 3, 4}, l{3, 4}, l{4})
	checkAll(t, "(a?){2,}", "aaa", l{0, 1, 2, 3}, l{1, 2, 3}, l{2, 3}, l{3})
	checkAll(t, "()*a", "a", l{1}, nil)
	checkAll(t, "(^)*a", "aa", l{1}, l{2}, nil)
	checkAll(t, "(^)+a", "aa", l{1}, nil, nil)
	checkAll(t, "($|a)*", "aa", l{0, 1, 2}, l{1, 2}, l{2})
	checkAll(t, `(\b|a)*b`, "aab", l{3}, l{3}, l{3}, nil)
	checkAll(t, `(\b|a){2,}b`, "aab", l{3}, nil, nil, nil)
}

func TestNoneOfSomethingManyTimes(t *testing.T) {
	for _, pattern := range []string{
		strings.Repeat("(", 10) + "a{0}" + strings.Repeat("){100}", 10),
		strings.Repeat("(", 10) + strings.Repeat("){100}", 10),
		strings.Repeat("(", 10) + "a{100}){0}" + strings.Repeat("){100,100}", 9),
		strings.Repeat("(?:", 10) + "a{0}" + strings.Repeat("){100}?", 10),
		"((((((((a{0}){100}b{0}){100}|c{0}){0}){100}){100}){100}){100}){100}",
		"(){100,}", "(a{0}){2,}", "(){0,100}", "((){100}){50,100}", "(((){100}){100})*",
	} {
		checkAll(t, pattern, "ab", l{0}, l{1}, l{2})
		checkAll(t, pattern+"b", "ab", nil, l{2}, nil)
	}
	checkAll(t, "((((a{100}){100}){100}){100}){0}b*", "bb", l{0, 1, 2}, l{1, 2}, l{2})
	checkAll(t, "((){100}a){3}", "aaa", l{3}, nil, nil, nil)
}

func TestBeginningAndEnd(t *testing.T) {
	checkAll(t, "^", "ab", l{0}, nil, nil)
	checkAll(t, "$", "ab", nil, nil, l{2})
	checkAll(t, "^$", "", l{0})
	checkAll(t, "^$", "a", nil, nil)
	checkAll(t, "$^", "", l{0})
	checkAll(t, "^a*$", "aa", l{2}, nil, nil)
	checkAll(t, "a^", "aa", nil, nil, nil)
	checkAll(t, "a$b", "ab", nil, nil, nil)
	checkAll(t, "^", "\na", l{0}, nil, nil)
	checkAll(t, "$", "a\n", nil, nil, l{2})
	checkAll(t, "(^a|b)*", "ab", l{0, 1, 2}, l{1, 2}, l{2})
	checkAll(t, "(^a|b)*", "ba", l{0, 1}, l{1}, l{2})
	checkAll(t, "a*(b|$)", "aab", l{3}, l{3}, l{3}, l{3})
	checkAll(t, "$", "é", nil, l{1})
}

func TestEdgesOfWords(t *testing.T) {
	for _, c := range []struct {
		text  string
		edges []int
	}{
		{"", nil}, {" ", nil}, {"é", nil}, {"\n\n", nil}, {"-😀", nil},
		{"a", l{0, 1}}, {"Z", l{0, 1}}, {"0", l{0, 1}}, {"9z", l{0, 2}}, {"_", l{0, 1}}, {"ab", l{0, 2}},
		{" a", l{1, 2}}, {"a ", l{0, 1}}, {"a b", l{0, 1, 2, 3}}, {"é_é", l{1, 2}}, {"A-é0", l{0, 1, 3, 4}}, {"aéa", l{0, 1, 2, 3}}, {"a１", l{0, 1}},
		{"@A[`a{/0:", l{1, 2, 4, 5, 7, 8}},
	} {
		for from := range len([]rune(c.text)) + 1 {
			if slices.Contains(c.edges, from) {
				checkEnds(t, `\b`, c.text, from, from)
				checkEnds(t, `\B`, c.text, from)
			} else {
				checkEnds(t, `\b`, c.text, from)
				checkEnds(t, `\B`, c.text, from, from)
			}
		}
	}
	checkAll(t, `\b\w+\b`, "ab cd", l{2}, nil, nil, l{5}, nil, nil)
	checkAll(t, `.\B.`, "ab c", l{2}, nil, nil, nil, nil)
	checkAll(t, `\b\B`, "a ", nil, nil, nil)
	checkAll(t, `a\b.*`, "a-a", l{1, 2, 3}, nil, l{3}, nil)
}

func TestCharactersOfEscapesAndClasses(t *testing.T) {
	checkEnds(t, ".*", "aé€😀\u0085\n", 0, upTo(0, 5)...)
	for _, char := range []string{"\n", "\r", "\u2028", "\u2029"} {
		checkEnds(t, ".", char, 0)
		checkEnds(t, "[^]", char, 0, 1)
		checkEnds(t, `\s`, char, 0, 1)
	}
	checkEnds(t, `\d*`, "0123456789a", 0, upTo(0, 10)...)
	checkEnds(t, `\D*`, "aé\n😀/:0", 0, upTo(0, 6)...)
	checkEnds(t, `\w*`, "azAZ09_é", 0, upTo(0, 7)...)
	checkEnds(t, `\W*`, "é\n-😀@[`{/:a", 0, upTo(0, 10)...)
	checkEnds(t, `\s*`, "\t\n\v\f\r \u00a0\u1680\u2000\u200a\u2028\u2029\u202f\u205f\u3000\ufeff\u200b", 0, upTo(0, 16)...)
	checkEnds(t, `\S*`, "a\u200b\u0085\u180e\u0008\u000e ", 0, upTo(0, 6)...)
	checkEnds(t, `\t\n\v\f\r\0\cJ\cj\x4a\u004A\u{4a}`, "\t\n\v\f\r\x00\n\nJJJ", 0, 11)
	checkEnds(t, `\^\$\\\.\*\+\?\(\)\[\]\{\}\|\/`, `^$\.*+?()[]{}|/`, 0, 15)
	checkEnds(t, "é.", "né€", 1, 3)
	checkAll(t, "[a-c-e]*", "a-ed", l{0, 1, 2, 3}, l{1, 2, 3}, l{2, 3}, l{3}, l{4})
	checkAll(t, "[-a][a-]", "a-b", l{2}, nil, nil, nil)
	checkEnds(t, "[--a]*", "-09AZa,b", 0, upTo(0, 6)...)
	checkAll(t, "[]", "a", nil, nil)
	checkAll(t, "[]*", "a", l{0}, l{1})
	checkAll(t, "[]|a", "a", l{1}, nil)
	checkAll(t, "[^a-c]", "abcd", nil, nil, nil, l{4}, nil)
	checkAll(t, `[^\d\s]`, "1 x", nil, nil, l{3}, nil)
	checkAll(t, `[\D]`, "1a", nil, l{2}, nil)
	checkAll(t, `[\b]`, "\b", l{1}, nil)
	checkAll(t, `[\-\]^]*`, "-]^[", l{0, 1, 2, 3}, l{1, 2, 3}, l{2, 3}, l{3}, l{4})
	checkAll(t, "[😀-😂]", "😁😃", l{1}, nil, nil)
	checkAll(t, `[z\wa-c!]`, "!é", l{1}, nil, nil)
}

func TestNumbersThatAreNoCharacter(t *testing.T) {
	for _, pattern := range []string{`\uD83D`, `\uDE00`, `\uDE00\uD83D`, `\u{D83D}\u{DE00}`, `\uD83D\u{DE00}`, `\u{D800}`, `\u{DFFF}`, `[\uD83D]`, `[\uD800-\uDFFF]`, `[\uD83D-\uDE00]+`, `a?\uD83D`} {
		checkAll(t, pattern, "😀\ud7ff\ue000", nil, nil, nil, nil)
	}
	checkAll(t, `\uD83D*`, "😀", l{0}, l{1})
	checkAll(t, `\uD83D{0}`, "😀", l{0}, l{1})
	checkAll(t, `\uD83D|\uD83D\uDE00`, "😀", l{1}, nil)
	checkAll(t, `\uD83D\uDE00*`, "😀😀", l{0, 1, 2}, l{1, 2}, l{2})
	checkAll(t, `^\u{1F600}$`, "😀", l{1}, nil)
	checkAll(t, `^[^]$`, "😀", l{1}, nil)
	checkAll(t, `[^\uD800-\uDFFF]`, "😀\ud7ff\ue000", l{1}, l{2}, l{3}, nil)
	checkAll(t, `[\uD7FF-\uE000]`, "\ud7fe\ud7ff\ue000\ue001", nil, l{2}, l{3}, nil, nil)
	checkAll(t, `[\uD83D\uDE00]`, "😀", l{1}, nil)
	checkAll(t, `[\uD800-\u{10000}]`, "\U00010000\U00010001", l{1}, nil, nil)
}

func TestLongestTexts(t *testing.T) {
	text := strings.Repeat("a", api.MaxText)
	checkEnds(t, "a*", text, 0, upTo(0, 400)...)
	checkEnds(t, "a*", text, 390, upTo(390, 400)...)
	checkEnds(t, "a*", text, 400, 400)
	checkEnds(t, "a*$", text, 0, 400)
	checkEnds(t, "é*", strings.Repeat("é", 200), 0, upTo(0, 200)...)
	checkEnds(t, ".*", strings.Repeat("😀", 100), 99, 99, 100)
	checkEnds(t, ".*", strings.Repeat("€", 133)+"a", 0, upTo(0, 134)...)
}

// Here going back would take longer than anyone waits.
func TestOnePassIsEnough(t *testing.T) {
	text := strings.Repeat("a", api.MaxText)
	checkEnds(t, strings.Repeat("(", 10)+"a*"+strings.Repeat(")*", 10)+"b", text, 0)
	checkEnds(t, "(a?){100}a{99}", text, 7, upTo(7+99, 7+199)...)
	checkEnds(t, "(a|a|aa|aaa)*b", text, 0)
	checkEnds(t, "(a*a*a*a*){20}$", text, 0, 400)
}

func TestWrongArgumentsOfEnds(t *testing.T) {
	p := compiled(t, "a*")
	bad := strings.Repeat("a", api.MaxText-1) + "\xff"
	for _, c := range []struct {
		text string
		from int
		e    api.Errno
		at   int
	}{
		{"ab", -1, api.ErrArg, 0}, {"ab", 3, api.ErrArg, 0}, {"", 1, api.ErrArg, 0}, {"", -1, api.ErrArg, 0}, {"é", 2, api.ErrArg, 0}, {"😀", 2, api.ErrArg, 0}, {"😀", 4, api.ErrArg, 0},
		{"ab", math.MaxInt, api.ErrArg, 0}, {"ab", math.MinInt, api.ErrArg, 0}, {strings.Repeat("é", 200), 201, api.ErrArg, 0}, {strings.Repeat("a", 400), 401, api.ErrArg, 0},
		{"\xc3\x28", 0, api.ErrText, 0}, {"a\xe2\x82", 0, api.ErrText, 1}, {"\xc0\x80", 0, api.ErrText, 0}, {"\xed\xa0\x80", 0, api.ErrText, 0}, {"\xf4\x90\x80\x80", 0, api.ErrText, 0}, {"\xf8", 0, api.ErrText, 0},
		{"é\xff", 0, api.ErrText, 2}, {"aé\xf0\x9f\x98", 1, api.ErrText, 3}, {bad, 0, api.ErrText, 399}, {"b\x80", 0, api.ErrText, 1},
		{"\xff", -1, api.ErrText, 0}, {"a\xff", 9, api.ErrText, 1}, {bad, math.MaxInt, api.ErrText, 399},
		{strings.Repeat("a", 401), 0, api.ErrLong, 400}, {strings.Repeat("é", 200) + "a", 0, api.ErrLong, 400}, {strings.Repeat("a", 100000), 0, api.ErrLong, 400}, {strings.Repeat("€", 134), 0, api.ErrLong, 400},
		{strings.Repeat("\xff", 401), 0, api.ErrLong, 400}, {bad + "a", 0, api.ErrLong, 400}, {strings.Repeat("a", 401), -1, api.ErrLong, 400}, {strings.Repeat("\xff", 500), 501, api.ErrLong, 400},
	} {
		if got, e, at := p.Ends(c.text, c.from); len(got) != 0 || e != c.e || at != c.at {
			t.Errorf("P5: Ends(%q, %d) = %v, %d, %d, want %d, %d", c.text, c.from, got, e, at, c.e, c.at)
		}
	}
	checkEnds(t, "a*", "aa", 2, 2)
}

// fill writes into a list, and into the room behind it.
func fill(list []int, number int) {
	list = list[:cap(list)]
	for i := range list {
		list[i] = number
	}
}

func allAre(list []int, number int) bool {
	return !slices.ContainsFunc(list[:cap(list)], func(n int) bool { return n != number })
}

func TestListsAreTheCallers(t *testing.T) {
	p, q := compiled(t, "a*b?"), compiled(t, "a*b?")
	var lists [][]int
	for i := range 12 {
		asked := p
		if i%3 == 2 {
			asked = q
		}
		from := i % 4
		got, e, at := asked.Ends("aaab", from)
		if !slices.Equal(got, upTo(from, 4)) || e != api.OK || at != 0 {
			t.Errorf("P2: the call %d: %v, %d, %d", i, got, e, at)
		}
		fill(got, -i)
		lists = append(lists, got)
	}
	for i, list := range lists {
		if !allAre(list, -i) {
			t.Errorf("P2: the list %d has become %v", i, list[:cap(list)])
		}
	}
}

func TestPatternsDoNotHangOnWhatWasAskedBefore(t *testing.T) {
	p := compiled(t, `^a|\bb`)
	p.Ends("\xff", 0)
	p.Ends("ab", -1)
	for range 2 {
		for text, want := range map[string]int{"a": 1, "b": 1, "ab": 1, " a": 0} {
			if got, _, _ := p.Ends(text, 0); len(got) != want {
				t.Errorf("P2: Ends(%q, 0) = %v", text, got)
			}
		}
	}
	if got := p.Size(); got != 6 {
		t.Errorf("P4: the size is %d", got)
	}
}
