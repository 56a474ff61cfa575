package lineal

import (
	"math"
	"slices"
	"strings"
	"testing"

	"lineal/api"
)

func finderOf(t *testing.T, p *Pattern, states int) *Finder {
	t.Helper()
	f, e := p.Finder(states)
	if f == nil || e != api.OK {
		t.Fatalf("P6: Finder(%d) = %v, %d", states, f, e)
	}
	return f
}

// checkFind looks at the store too: behind each Find it has one state at least.
func checkFind(t *testing.T, f *Finder, states int, text string, empties []int, want bool) {
	t.Helper()
	got, e, at := f.Find(text, empties)
	if got != want || e != api.OK || at != 0 {
		t.Errorf("P7: Find(%q, %v) = %v, %d, %d, want %v", text, empties, got, e, at, want)
	}
	if live := f.Live(); live < 1 || live > states {
		t.Errorf("P8: behind Find(%q, %v): Live() = %d, of %d", text, empties, live, states)
	}
}

// checkFound asks finders of several sizes, with the store emptied here and
// there, and each of them for all of the texts.
func checkFound(t *testing.T, pattern string, found, notFound []string) {
	t.Helper()
	p := compiled(t, pattern)
	for _, states := range []int{2, 3, 5, api.MaxStates} {
		f := finderOf(t, p, states)
		for _, empties := range [][]int{nil, upTo(0, api.MaxText), {0}, {1}, {2, 2, 1}, {}, {-1, math.MinInt, math.MaxInt, api.MaxText}} {
			for _, text := range found {
				checkFind(t, f, states, text, empties, true)
			}
			for _, text := range notFound {
				checkFind(t, f, states, text, empties, false)
			}
		}
	}
}

type texts = []string

func TestStatesOfAFinder(t *testing.T) {
	p := compiled(t, "ab")
	for states := -3; states <= api.MaxStates+3; states++ {
		f, e := p.Finder(states)
		switch {
		case states < 2 || states > api.MaxStates:
			if f != nil || e != api.ErrArg {
				t.Errorf("P6: Finder(%d) = %v, %d", states, f, e)
			}
		case f == nil || e != api.OK || f.Live() != 0:
			t.Errorf("P6: Finder(%d) = %v, %d", states, f, e)
		}
	}
	for _, states := range []int{math.MinInt, -64, math.MaxInt, 1 << 32, 1<<32 + 2} {
		if f, e := p.Finder(states); f != nil || e != api.ErrArg {
			t.Errorf("P6: Finder(%d) = %v, %d", states, f, e)
		}
	}
}

func TestFindSomewhere(t *testing.T) {
	checkFound(t, "", texts{"", "a", "\n"}, nil)
	checkFound(t, "a", texts{"a", "ba", "ab", "bbbab"}, texts{"", "b", "A", "bbbb"})
	checkFound(t, "aab", texts{"aab", "aaab", "aaaab", "abaab", "xaabx"}, texts{"", "ab", "aaa", "aba", "abab"})
	checkFound(t, "(a|b)*abb", texts{"bababb", "xxabbxx", "abb"}, texts{"", "bababa", "ab", "ab b"})
	checkFound(t, "ab|ba", texts{"ab", "ba", "aab", "caba"}, texts{"", "aa", "acb"})
	checkFound(t, "a{2,3}b", texts{"aab", "aaaab"}, texts{"ab", "abab", "aaa"})
	checkFound(t, "x[^]{3}y", texts{"axbcdyz", "xxxxxy", "x\n\n\ny"}, texts{"xy", "xaay", "xaaaay"})
	checkFound(t, "x.{2}y", texts{"x😀éy"}, texts{"x\n\ny", "x\u2028ay"})
	checkFound(t, "[]", nil, texts{"", "a", "[]"})
	checkFound(t, `\uD83D`, nil, texts{"", "😀", "\uFFFD"})
	checkFound(t, `\u{1F600}|[^\0-\u{FFFF}]`, texts{"a😀", "😁"}, texts{"", "\uFFFF"})
	checkFound(t, "a*", texts{"", "b", "aaa"}, nil)
	checkFound(t, "(a{0}){100}b", texts{"b", "ab"}, texts{"", "a"})
}

func TestFindAtTheTextsEnds(t *testing.T) {
	checkFound(t, "^ab", texts{"ab", "abc"}, texts{"", "aab", "cab", "\nab"})
	checkFound(t, "ab$", texts{"ab", "cab", "abab"}, texts{"", "abc", "aba", "ab\n"})
	checkFound(t, "^$", texts{""}, texts{"a", "\n"})
	checkFound(t, "$^", texts{""}, texts{"a", "\n"})
	checkFound(t, "^", texts{"", "a", "\n"}, nil)
	checkFound(t, "$", texts{"", "a", "\n"}, nil)
	checkFound(t, "^[^]$", texts{"a", "😀", "\n"}, texts{"", "ab", "😀😀"})
	checkFound(t, "a^|$b", nil, texts{"", "a", "b", "ab", "ba"})
	checkFound(t, "(^|a)b", texts{"b", "ab", "cab"}, texts{"cb", "a", ""})
	checkFound(t, "a(b|$)", texts{"a", "ab", "ca", "cabc"}, texts{"ac", "b", ""})
	checkFound(t, "^a*$", texts{"", "aaa"}, texts{"aab", "baa", "aba"})
}

func TestFindAtWordsEdges(t *testing.T) {
	checkFound(t, `\b`, texts{"a", " a", "_ ", "é9"}, texts{"", " ", "é", "- -"})
	checkFound(t, `\B`, texts{"", " ", "ab", "é"}, texts{"a", "_"})
	checkFound(t, `\bb`, texts{"b", "a b", "éb", "-b"}, texts{"", "ab", "_b", "9b"})
	checkFound(t, `b\b`, texts{"b", "ab", "b a", "bé"}, texts{"", "ba", "b_", "b0"})
	checkFound(t, `\Bb`, texts{"ab", " bb"}, texts{"", "b", " b", "-b b"})
	checkFound(t, `b\B`, texts{"ba", "bb "}, texts{"", "b", "ab", "b b"})
	checkFound(t, `a\bé`, texts{"aé", "baéa"}, texts{"éa", "a"})
	checkFound(t, `é\bé|a\ba`, nil, texts{"éé", "aa", "éaaé"})
	checkFound(t, `\ba\b`, texts{"a", "b a", "a b", "-a-"}, texts{"", "aa", "a_", "éaaé"})
	checkFound(t, `^\B|\B$`, texts{"", " a", "a "}, texts{"a", "ab"})
	checkFound(t, ` \b\w+\b-`, texts{"a bc-", " a-"}, texts{"a-", " -", " a"})
}

// Every text of a few words, in one finder after the other: what is found is what
// Ends tells of some place.
func TestFindsWhatEndsTell(t *testing.T) {
	var all []string
	extend := func(text string) []string {
		return []string{text + "a", text + "b", text + "_", text + " ", text + "é"}
	}
	row := []string{""}
	for range 5 {
		all = append(all, row...)
		var longer []string
		for _, text := range row {
			longer = append(longer, extend(text)...)
		}
		row = longer
	}
	for _, pattern := range []string{`a(b|ba)*\b`, "^(a|b_)*$", "(ab?){2,3}_", `\B[ab]_|a$`, `b*(a|^)\b_`, "[^a]a{2}|__", "(a|_|)+b$", `\b[^a]\B|é\Ba`, `^\w\W|\W\w$`} {
		p := compiled(t, pattern)
		small, middle, large := finderOf(t, p, 2), finderOf(t, p, 3), finderOf(t, p, api.MaxStates)
		for i, text := range all {
			want := false
			for from := range len([]rune(text)) + 1 {
				ends, _, _ := p.Ends(text, from)
				want = want || len(ends) > 0
			}
			checkFind(t, small, 2, text, nil, want)
			checkFind(t, middle, 3, text, []int{i % 3, i % 7}, want)
			checkFind(t, large, api.MaxStates, text, []int{i % 40}, want)
		}
	}
}

func TestFindInTheLongestTexts(t *testing.T) {
	full := strings.Repeat("a", api.MaxText)
	checkFound(t, "^(a|aa)+$", texts{full}, texts{full[:399] + "b"})
	checkFound(t, "b", texts{full[:399] + "b"}, texts{full})
	checkFound(t, "^(a?){20}a{20}$", texts{full[:20], full[:40]}, texts{full[:19], full[:41]})
	checkFound(t, "(b|^)a{99}(.{40}){2}$", texts{full[:179], "b" + full[:179]}, texts{full, full[:178]})
	checkFound(t, "^([^]{100}){2}$", texts{strings.Repeat("é", 200)}, texts{full, strings.Repeat("é", 199), strings.Repeat("€", 133)})
	checkFound(t, "😀{100}$", texts{strings.Repeat("😀", 100)}, texts{strings.Repeat("😀", 99) + "a"})
}

// A pattern of which every part of a text may have come to another set of places
// makes far more states than there is room for.
func TestFindWithManyStates(t *testing.T) {
	p := compiled(t, "a[ab]{12}c")
	var text strings.Builder
	for i := range 390 {
		text.WriteByte("ab"[i*i%7%3%2])
	}
	for _, states := range []int{2, 10, api.MaxStates} {
		f := finderOf(t, p, states)
		for range 3 {
			checkFind(t, f, states, text.String(), nil, false)
			checkFind(t, f, states, text.String()+"abbbbbbbbc", nil, false)
			checkFind(t, f, states, text.String()[:380]+"a"+strings.Repeat("b", 12)+"c", nil, true)
		}
	}
}

func TestErrorsOfFind(t *testing.T) {
	long := strings.Repeat("a", api.MaxText+1)
	for _, behind := range []string{"", "ab"} {
		f := finderOf(t, compiled(t, "a"), 4)
		if behind != "" {
			checkFind(t, f, 4, behind, nil, true)
		}
		live := f.Live()
		for _, c := range []struct {
			text string
			want api.Errno
			at   int
		}{
			{"\xff", api.ErrText, 0}, {"a\xff", api.ErrText, 1}, {"\xc3\x28", api.ErrText, 0}, {"a\xe2\x82", api.ErrText, 1}, {"aé\xed\xa0\x80a", api.ErrText, 3},
			{"\xc0\x80", api.ErrText, 0}, {"\xf4\x90\x80\x80", api.ErrText, 0}, {"\xf8", api.ErrText, 0}, {long[:399] + "\xff", api.ErrText, 399},
			{long, api.ErrLong, 400}, {long + long, api.ErrLong, 400}, {"\xff" + long, api.ErrLong, 400}, {long[:400] + "\xff", api.ErrLong, 400}, {long[:399] + "é", api.ErrLong, 400},
		} {
			for _, empties := range [][]int{nil, {0}, upTo(0, 400)} {
				if got, e, at := f.Find(c.text, empties); got || e != c.want || at != c.at {
					t.Errorf("P7: Find(%q) = %v, %d, %d, want %d, %d", c.text, got, e, at, c.want, c.at)
				}
				if f.Live() != live {
					t.Errorf("P1: behind Find(%q): Live() = %d, was %d", c.text, f.Live(), live)
				}
			}
		}
	}
}

func TestLive(t *testing.T) {
	p := compiled(t, "a.b.c.d")
	for states := 2; states <= api.MaxStates; states++ {
		f := finderOf(t, p, states)
		if f.Live() != 0 {
			t.Errorf("P8: at first: Live() = %d", f.Live())
		}
		for _, text := range []string{"", "abab", "aaaabbbbccccdddd", "", "a-b-c-d", strings.Repeat("aabc", 100), ""} {
			for _, empties := range [][]int{nil, {0}, {len(text) - 1}, {len(text)}, upTo(0, len(text))} {
				_, e, _ := f.Find(text, empties)
				if live := f.Live(); e != api.OK || live < 1 || live > states || f.Live() != live {
					t.Errorf("P8: behind Find(%q): Live() = %d, of %d", text, live, states)
				}
			}
		}
	}
}

// Emptied ahead of its last character, a store has what that one needs alone:
// numbers are those of characters, not of bytes.
func TestStoreIsEmptiedWhereAsked(t *testing.T) {
	p := compiled(t, "éèêëabcdefg")
	text := "éèêëabcdef"
	for _, c := range []struct {
		empties []int
		few     bool
	}{{nil, false}, {[]int{9}, true}, {[]int{9, 2, 9, -1}, true}, {[]int{10}, false}, {[]int{13}, false}, {[]int{-1}, false}, {upTo(0, 20), true}} {
		f := finderOf(t, p, api.MaxStates)
		checkFind(t, f, api.MaxStates, text, c.empties, false)
		if few := f.Live() <= 2; few != c.few {
			t.Errorf("P7: behind Find with %v: Live() = %d", c.empties, f.Live())
		}
	}
}

func TestEmptiesAreNotWrittenIntoNorKept(t *testing.T) {
	room := []int{3, 1, 1, -5, 900, 7, 7}
	empties := room[:5]
	f := finderOf(t, compiled(t, "ab{3}c"), 3)
	checkFind(t, f, 3, "aabbbcc", empties, true)
	if !slices.Equal(room, []int{3, 1, 1, -5, 900, 7, 7}) {
		t.Errorf("P2: written into: %v", room)
	}
	before := f.Live()
	for i := range room {
		room[i] = i
	}
	if f.Live() != before {
		t.Errorf("P2: Live() = %d, was %d", f.Live(), before)
	}
	checkFind(t, f, 3, "aabbbcc", nil, true)
	checkFind(t, f, 3, "aabbcc", nil, false)
}

func TestManyEmpties(t *testing.T) {
	f := finderOf(t, compiled(t, "ab$"), 2)
	many := make([]int, 1_000_000)
	for i := range many {
		many[i] = i - 500_000
	}
	checkFind(t, f, 2, strings.Repeat("ab", 200), many, true)
}

func TestFindersInTurns(t *testing.T) {
	ab, ba := compiled(t, "^ab*$"), compiled(t, `\bba\b`)
	finders := []*Finder{finderOf(t, ab, 2), finderOf(t, ba, 2), finderOf(t, ab, 64), finderOf(t, ab, 3), finderOf(t, ba, 64)}
	for round := range 4 {
		for i, text := range []string{"abbb", "ba", "ba ab", "ab", "", "a", "bab"} {
			for k, f := range finders {
				want := slices.Contains([]string{"abbb", "ab", "a"}, text)
				if k == 1 || k == 4 {
					want = slices.Contains([]string{"ba", "ba ab"}, text)
				}
				checkFind(t, f, 64, text, []int{i - round}, want)
			}
		}
	}
	if fresh := finderOf(t, ab, 2); fresh.Live() != 0 {
		t.Errorf("P8: a new finder beside others: Live() = %d", fresh.Live())
	}
	checkEnds(t, "^ab*$", "abb", 0, 3)
}
