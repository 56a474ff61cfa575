package lineal

import (
	"strings"
	"testing"

	"lineal/api"
)

// checkSize asks for a pattern that is right, twice, since nothing may hang on what was asked before.
func checkSize(t *testing.T, pattern string, want int) {
	t.Helper()
	for range 2 {
		p, e, at := Compile(pattern)
		if p == nil || e != api.OK || at != 0 {
			t.Errorf("P3: Compile(%q) = %v, %d, %d", pattern, p, e, at)
			return
		}
		for range 2 {
			if got := p.Size(); got != want {
				t.Errorf("P4: the size of %q is %d, want %d", pattern, got, want)
			}
		}
	}
}

type wrong struct {
	pattern string
	e       api.Errno
	at      int
}

func checkWrong(t *testing.T, list []wrong) {
	t.Helper()
	for _, c := range list {
		p, e, at := Compile(c.pattern)
		if p != nil || e != c.e || at != c.at {
			t.Errorf("P3: Compile(%q) = %v, %d, %d, want %d, %d", c.pattern, p, e, at, c.e, c.at)
		}
	}
}

func TestSizes(t *testing.T) {
	for _, c := range []struct {
		pattern string
		want    int
	}{
		{"", 1}, {"a", 2}, {"a*b", 4}, {"a*?", 3}, {"a+b+", 5}, {"a?", 3}, {"|", 2}, {"a||b", 5}, {"()", 1}, {"()*", 2}, {"(|)", 2},
		{"a{2,3}", 5}, {"(?:ab|c)+", 6}, {"x{0}", 1}, {"x{0,0}", 1}, {"x{2,2}", 3}, {"(ab){3,}", 8}, {"(ab){0,}", 4}, {"(ab){1,}?", 4}, {"(ab){0,3}", 10}, {"(ab){2,4}?", 11}, {"a{002}", 3},
		{`^a$\b\B`, 6}, {"(^)*", 3}, {"(^|a)?", 5}, {`\d\W.`, 4}, {"[a-z0-9_]", 2}, {"[]", 2}, {"[^]", 2}, {`[\b\-\d]`, 2}, {"é€😀", 4}, {"\x00", 2}, {":=!<>,-/", 9},
		{`\uD83D\uDE00`, 2}, {`\uD83D\uDE00*`, 3}, {`\uD83D*\uDE00`, 4}, {`\uD83D`, 2}, {`\uD83D\u{DE00}`, 3}, {`\u{D83D}\uDE00`, 3}, {`\0a`, 3}, {`\0８`, 3},
	} {
		checkSize(t, c.pattern, c.want)
	}
}

func TestLongestPattern(t *testing.T) {
	checkSize(t, strings.Repeat("a", api.MaxPattern), 201)
	checkSize(t, strings.Repeat("é", api.MaxPattern/2), 101)
	checkSize(t, strings.Repeat("|", api.MaxPattern), 201)
	checkWrong(t, []wrong{
		{strings.Repeat("a", api.MaxPattern+1), api.ErrLong, api.MaxPattern},
		{strings.Repeat("*", api.MaxPattern+1), api.ErrLong, api.MaxPattern},
		{strings.Repeat("\xff", api.MaxPattern+1), api.ErrLong, api.MaxPattern},
		{strings.Repeat("é", api.MaxPattern/2) + "a", api.ErrLong, api.MaxPattern},
		{strings.Repeat("(", 100000), api.ErrLong, api.MaxPattern},
		{strings.Repeat("a", api.MaxPattern-1) + "\xff", api.ErrText, api.MaxPattern - 1},
		{strings.Repeat("a", api.MaxPattern-1) + "(", api.ErrSyntax, api.MaxPattern},
	})
}

func TestGreatestCount(t *testing.T) {
	checkSize(t, "a{100}", 101)
	checkSize(t, "a{100,}", 102)
	checkSize(t, "a{0,100}", 201)
	checkSize(t, "a{100,100}", 101)
	checkSize(t, "a{"+strings.Repeat("0", 190)+"100}", 101)
	checkWrong(t, []wrong{
		{"a{101}", api.ErrCount, 2}, {"a{101", api.ErrCount, 2}, {"a{101x", api.ErrCount, 2}, {"a{0101,3}", api.ErrCount, 2}, {"a{1000000000000000000000000,", api.ErrCount, 2},
		{"a{18446744073709551616}", api.ErrCount, 2}, {"a{4294967297}", api.ErrCount, 2},
		{"a{1,101}", api.ErrCount, 4}, {"a{1,101", api.ErrCount, 4}, {"a{1,101x", api.ErrCount, 4}, {"é{001,18446744073709551617}", api.ErrCount, 7}, {"a{101,102}", api.ErrCount, 2},
		{"a{" + strings.Repeat("9", 198), api.ErrCount, 2},
	})
}

func nested(depth int, inner string) string {
	return strings.Repeat("(", depth) + inner + strings.Repeat(")", depth)
}

func TestDeepestGroups(t *testing.T) {
	checkSize(t, nested(api.MaxDepth, "a"), 2)
	checkSize(t, nested(api.MaxDepth, "")+nested(api.MaxDepth, "a"), 2)
	checkSize(t, nested(api.MaxDepth, `[(]\(`), 3)
	checkSize(t, strings.Repeat("(?:", api.MaxDepth)+strings.Repeat(")", api.MaxDepth), 1)
	checkSize(t, strings.Repeat("()", 100), 1)
	checkWrong(t, []wrong{
		{nested(api.MaxDepth+1, "a"), api.ErrDeep, 10},
		{nested(api.MaxDepth, "a()"), api.ErrDeep, 11},
		{strings.Repeat("(", 11), api.ErrDeep, 10},
		{strings.Repeat("(", 10) + "(?", api.ErrDeep, 10},
		{strings.Repeat("(", 10) + "(?=", api.ErrDeep, 10},
		{strings.Repeat("(?:", 11), api.ErrDeep, 30},
		{"(a)" + strings.Repeat("(", 10) + "é(", api.ErrDeep, 15},
		{strings.Repeat("(", 10), api.ErrSyntax, 10},
	})
}

func TestGreatestSize(t *testing.T) {
	checkSize(t, "a{100}a{100}a{99}", api.MaxSize)
	checkSize(t, "(?:a{99}|b{100}|c{98})", api.MaxSize)
	checkSize(t, "((a{100}){100}){0}", 1)
	checkSize(t, "((((a{100}){100}){100}){100}){0}b*", 3)
	checkWrong(t, []wrong{
		{"a{100}a{100}a{100}", api.ErrBig, 0}, {"(a{100}){3}", api.ErrBig, 0}, {"(a{0,100}){2}", api.ErrBig, 0}, {"(a{100}){3,}", api.ErrBig, 0}, {"(a{100}){1,3}", api.ErrBig, 0},
		{"a" + nested(api.MaxDepth, "a{100}") + "{100}{", api.ErrSyntax, 32},
		{strings.Repeat("(", 10) + "a{100}" + strings.Repeat("){100}", 10), api.ErrBig, 0},
		{strings.Repeat("(", 10) + "a{100,}" + strings.Repeat("){0,100}", 10), api.ErrBig, 0},
	})
}

func TestNothingManyTimes(t *testing.T) {
	checkSize(t, strings.Repeat("(", 10)+"a{0}"+strings.Repeat("){100}", 10), 1)
	checkSize(t, strings.Repeat("(", 10)+strings.Repeat("){100}", 10), 1)
	checkSize(t, "("+nested(9, "")+"{100}){100,}", 2)
	checkSize(t, "((a{0}){100}){50,100}", 51)
}

func TestWrongSyntax(t *testing.T) {
	var list []wrong
	for _, c := range []struct {
		pattern string
		at      int
	}{
		{"*a", 0}, {"+", 0}, {"?", 0}, {"{", 0}, {"{2}", 0}, {"a**", 2}, {"a*?*", 3}, {"a???", 3}, {"a{2}{3}", 4}, {"a{2}?{3}", 5}, {"^*", 1}, {"${2}", 1}, {`\b?`, 2}, {`\B+`, 2}, {"a|*", 2}, {"(*a)", 1}, {"(?:+)", 3}, {"é|(a|{", 6},
		{"}", 0}, {"]", 0}, {"a{2}}", 4}, {"[]a]", 3}, {"[^]]", 3}, {"a)", 1}, {")", 0}, {"(a))", 3}, {"a|)", 2},
		{"(a", 2}, {"(", 1}, {"(?:", 3}, {"((a)", 4}, {"(a|", 3}, {"(é", 3}, {"(?", 2}, {"(?a)", 2}, {"a(?)", 3}, {"(??", 2}, {"(?é", 2}, {"(?>a)", 2},
		{"a{", 2}, {"a{}", 2}, {"a{,3}", 2}, {"a{2", 3}, {"a{2x}", 3}, {"a{2,", 4}, {"a{2,,", 4}, {"a{2,3", 5}, {"a{5,3x}", 5}, {"a{5,3,", 5}, {"a{-1}", 2}, {"a{ 1}", 2}, {"a{1é}", 3}, {"a{１}", 2},
		{"[", 1}, {"[a", 2}, {"[^", 2}, {"[a-", 3}, {`[\d-`, 4}, {`[a\]`, 4}, {"[é", 3}, {"([)]", 4},
		{`\`, 1}, {`a\q`, 2}, {`\-`, 1}, {`\é`, 1}, {`\_`, 1}, {`\ `, 1}, {`\a`, 1}, {`\U0041`, 1}, {`[\q]`, 2}, {`[\B]`, 2}, {`[\`, 2}, {`[a-\`, 4}, {`[b-\q]`, 4}, {`[\é`, 2},
		{`\x`, 2}, {`\x4`, 3}, {`\xg1`, 2}, {`\x4g`, 3}, {`[\x4]`, 4}, {`\u`, 2}, {`\u12`, 4}, {`\u12G4`, 4}, {`\u123é`, 5}, {`\uD83D\u`, 8}, {`\uD83D\uDEZ0`, 10}, {`\uD83D\`, 7}, {`\uD83D\q`, 7},
		{`\u{`, 3}, {`\u{}`, 3}, {`\u{4`, 4}, {`\u{4x}`, 4}, {`\u{110000}`, 8}, {`\u{110000`, 8}, {`\u{FFFFFF}`, 8}, {`\u{1000000000}`, 9}, {`\u{0000110000}`, 12}, {`\u{10FFFF0}`, 9},
		{`\c`, 2}, {`\c1`, 2}, {`\c_`, 2}, {`\cé`, 2}, {`[\c`, 3}, {`[\c0]`, 3}, {`\00`, 2}, {`\09`, 2}, {`[\01]`, 3},
	} {
		list = append(list, wrong{c.pattern, api.ErrSyntax, c.at})
	}
	checkWrong(t, list)
}

func TestWrongRanges(t *testing.T) {
	checkWrong(t, []wrong{
		{"a{2,1}", api.ErrRange, 1}, {"é{100,99}?", api.ErrRange, 2}, {"(a){1,0}", api.ErrRange, 3}, {"a{2,1}*", api.ErrRange, 1},
		{"[b-a]", api.ErrRange, 2}, {"[b-a", api.ErrRange, 2}, {"[a-\x00]", api.ErrRange, 2}, {"[éb-a]", api.ErrRange, 4}, {"[a--]", api.ErrRange, 2}, {"[--+]", api.ErrRange, 2}, {"[^z-a]", api.ErrRange, 3}, {"[a-cz-x]", api.ErrRange, 5}, {"[a-c--+]", api.ErrRange, 5},
		{`[\d-z]`, api.ErrRange, 3}, {`[a-\w]`, api.ErrRange, 2}, {`[\s-\S]`, api.ErrRange, 3}, {`[\W-a`, api.ErrRange, 3}, {`[z-\x41]`, api.ErrRange, 2}, {`[a-\b]`, api.ErrRange, 2}, {`[a-\-]`, api.ErrRange, 2}, {`[a-\0]`, api.ErrRange, 2},
		{`[\uDC00-\uD800]`, api.ErrRange, 7}, {`[😀-\uFFFF]`, api.ErrRange, 5}, {`[\uE000-\uD83D]`, api.ErrRange, 7}, {`[\uD83D\uDE01-\uD83D\uDE00]`, api.ErrRange, 13},
	})
	for _, pattern := range []string{"[a-a]", "[+--]", "[---]", `[\uD83D-\uDE00]`, `[\uE000-\uD83D\uDE00]`, `[\0-\u{10FFFF}]`, "[a-c-e]", "[--a]", `[\d-]`, `[-\d]`} {
		checkSize(t, pattern, 2)
	}
}

func TestUnsupported(t *testing.T) {
	checkWrong(t, []wrong{
		{"(?=a)", api.ErrUnsupported, 0}, {"(?=", api.ErrUnsupported, 0}, {"a(?!a)", api.ErrUnsupported, 1}, {"é(?<", api.ErrUnsupported, 2}, {"((?<=a))", api.ErrUnsupported, 1}, {"(?<n>a)", api.ErrUnsupported, 0},
		{`a\1`, api.ErrUnsupported, 1}, {`\5`, api.ErrUnsupported, 0}, {`\9`, api.ErrUnsupported, 0}, {`(a)\12`, api.ErrUnsupported, 3}, {`é\k`, api.ErrUnsupported, 2}, {`\p{L}`, api.ErrUnsupported, 0}, {`\P`, api.ErrUnsupported, 0},
		{`[\1]`, api.ErrUnsupported, 1}, {`[a\9`, api.ErrUnsupported, 2}, {`[a-\p{L}]`, api.ErrUnsupported, 3}, {`[\d-\k]`, api.ErrUnsupported, 4}, {`[\P-a]`, api.ErrUnsupported, 1},
	})
}

func TestWhichFaultComesFirst(t *testing.T) {
	checkWrong(t, []wrong{
		{"*\xff", api.ErrText, 1}, {"(?=\xff", api.ErrText, 3}, {"**", api.ErrSyntax, 0}, {`a{101}\1*`, api.ErrCount, 2}, {`\1*(`, api.ErrUnsupported, 0}, {`(*\1`, api.ErrSyntax, 1},
		{`[b-a\1`, api.ErrRange, 2}, {`[\1b-a]`, api.ErrUnsupported, 1}, {"(a{2,1}", api.ErrRange, 2}, {"(?=a", api.ErrUnsupported, 0}, {"((a)", api.ErrSyntax, 4}, {"a{3,2}{101}", api.ErrRange, 1},
		{"a{100}{100}", api.ErrSyntax, 6}, {"(a{100}){100}[", api.ErrSyntax, 14}, {`[\uE000-\uD83D\uDEZ]`, api.ErrRange, 7},
	})
}

func TestBytesThatAreNoText(t *testing.T) {
	checkWrong(t, []wrong{
		{"\xc3\x28", api.ErrText, 0}, {"a\xe2\x82", api.ErrText, 1}, {"\xc0\x80", api.ErrText, 0}, {"\xed\xa0\x80", api.ErrText, 0}, {"\xf4\x90\x80\x80", api.ErrText, 0}, {"\xf8", api.ErrText, 0},
		{"é\xff", api.ErrText, 2}, {"€😀\x80", api.ErrText, 7}, {"[\xe0\x9f\xbf]", api.ErrText, 1}, {"\\\xff", api.ErrText, 1}, {"\xf0\x8f\xbf\xbf", api.ErrText, 0}, {"\xf0\x9f\x98", api.ErrText, 0},
	})
	checkSize(t, "a\xc3\xa9", 3)
	checkSize(t, "\U0010FFFF\uE000\uD7FF\uFFFD", 5)
}
