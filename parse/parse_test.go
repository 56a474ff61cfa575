package parse

import (
	"errors"
	"reflect"
	"testing"

	"lineal/fault"
	"lineal/part"
)

func terms(parts ...part.Part) part.Part { return part.Sequence(parts) }

func only(parts ...part.Part) part.Part { return part.Choice{terms(parts...)} }

func one(char part.Char) part.Range { return part.Range{First: char, Last: char} }

func TestParts(t *testing.T) {
	a, b := part.Char('a'), part.Char('b')
	for _, c := range []struct {
		pattern string
		want    part.Part
	}{
		{"a|b|", part.Choice{terms(a), terms(b), part.Sequence(nil)}},
		{"^a$", only(part.Begin, a, part.End)},
		{`\b.\B`, only(part.Edge, part.Any{}, part.Between)},
		{"(a|b)(?:a)", only(part.Choice{terms(a), terms(b)}, only(a))},
		{"ab*", only(a, part.Repeat{Part: b, Least: 0, Most: part.NoMost})},
		{"(ab)+?", only(part.Repeat{Part: only(a, b), Least: 1, Most: part.NoMost})},
		{"a??b", only(part.Repeat{Part: a, Least: 0, Most: 1}, b)},
		{"a{007}", only(part.Repeat{Part: a, Least: 7, Most: 7})},
		{"a{3,}", only(part.Repeat{Part: a, Least: 3, Most: part.NoMost})},
		{"a{3,100}?", only(part.Repeat{Part: a, Least: 3, Most: 100})},
		{`\uD83D\uDE00*`, only(part.Repeat{Part: part.Char(0x1F600), Least: 0, Most: part.NoMost})},
	} {
		got, err := Pattern(c.pattern)
		if err != nil || !reflect.DeepEqual(got, c.want) {
			t.Errorf("Pattern(%q) = %#v, %v, want %#v", c.pattern, got, err, c.want)
		}
	}
}

func TestEscapes(t *testing.T) {
	for _, c := range []struct {
		escapes string
		want    []part.Part
	}{
		{`\d\D\w\W\s\S`, []part.Part{part.Shorthand('d'), part.Shorthand('D'), part.Shorthand('w'), part.Shorthand('W'), part.Shorthand('s'), part.Shorthand('S')}},
		{`\t\n\v\f\r\0`, []part.Part{part.Char(9), part.Char(10), part.Char(11), part.Char(12), part.Char(13), part.Char(0)}},
		{`\ca\cA\cz\cZ`, []part.Part{part.Char(1), part.Char(1), part.Char(26), part.Char(26)}},
		{`\x00\xfF\xAa\u20aC\u{0}\u{0010FFFF}`, []part.Part{part.Char(0), part.Char(0xFF), part.Char(0xAA), part.Char(0x20AC), part.Char(0), part.Char(0x10FFFF)}},
		{`\^\$\\\.\*\+\?\(\)\[\]\{\}\|\/`, []part.Part{part.Char('^'), part.Char('$'), part.Char('\\'), part.Char('.'), part.Char('*'), part.Char('+'), part.Char('?'), part.Char('('), part.Char(')'), part.Char('['), part.Char(']'), part.Char('{'), part.Char('}'), part.Char('|'), part.Char('/')}},
		{`\uD800\uDC00\uDBFF\uDFFF`, []part.Part{part.Char(0x10000), part.Char(0x10FFFF)}},
		{`\uD83D\uD83D\uDE00\uDE00`, []part.Part{part.Char(0xD83D), part.Char(0x1F600), part.Char(0xDE00)}},
		{`\uD83D\u{DE00}`, []part.Part{part.Char(0xD83D), part.Char(0xDE00)}},
		{`\u{D83D}\uDE00`, []part.Part{part.Char(0xD83D), part.Char(0xDE00)}},
		{`\uD83D\uE000\uD7FF\uDE00`, []part.Part{part.Char(0xD83D), part.Char(0xE000), part.Char(0xD7FF), part.Char(0xDE00)}},
		{`\uD83D\\uDE00`, []part.Part{part.Char(0xD83D), part.Char('\\'), part.Char('u'), part.Char('D'), part.Char('E'), part.Char('0'), part.Char('0')}},
	} {
		got, err := Pattern(c.escapes)
		if want := only(c.want...); err != nil || !reflect.DeepEqual(got, want) {
			t.Errorf("Pattern(%q) = %#v, %v, want %#v", c.escapes, got, err, want)
		}
	}
}

func TestClasses(t *testing.T) {
	for _, c := range []struct {
		pattern string
		not     bool
		ranges  []part.Range
		many    []part.Shorthand
	}{
		{"[]", false, nil, nil},
		{"[^]", true, nil, nil},
		{"[^^]", true, []part.Range{one('^')}, nil},
		{"[a^]", false, []part.Range{one('a'), one('^')}, nil},
		{"[a-c-e]", false, []part.Range{{First: 'a', Last: 'c'}, one('-'), one('e')}, nil},
		{"[a-c--e]", false, []part.Range{{First: 'a', Last: 'c'}, {First: '-', Last: 'e'}}, nil},
		{"[-a]", false, []part.Range{one('-'), one('a')}, nil},
		{"[^-a]", true, []part.Range{one('-'), one('a')}, nil},
		{"[a-]", false, []part.Range{one('a'), one('-')}, nil},
		{"[--a]", false, []part.Range{{First: '-', Last: 'a'}}, nil},
		{"[--]", false, []part.Range{one('-'), one('-')}, nil},
		{"[---]", false, []part.Range{one('-')}, nil},
		{"[+--]", false, []part.Range{{First: '+', Last: '-'}}, nil},
		{`[a\-z]`, false, []part.Range{one('a'), one('-'), one('z')}, nil},
		{`[\--\]]`, false, []part.Range{{First: '-', Last: ']'}}, nil},
		{`[\b\x42]`, false, []part.Range{one(8), one('B')}, nil},
		{`[\d-]`, false, []part.Range{one('-')}, []part.Shorthand{'d'}},
		{`[-\d\W]`, false, []part.Range{one('-')}, []part.Shorthand{'d', 'W'}},
		{`[\uD83D\uDE00-\uD83D\uDE4F]`, false, []part.Range{{First: 0x1F600, Last: 0x1F64F}}, nil},
		{`[\uD83D-\uDE00]`, false, []part.Range{{First: 0xD83D, Last: 0xDE00}}, nil},
		{`[\uE000-\uD83D\uDE00]`, false, []part.Range{{First: 0xE000, Last: 0x1F600}}, nil},
		{`[(*.$|{}+?)[/]`, false, []part.Range{one('('), one('*'), one('.'), one('$'), one('|'), one('{'), one('}'), one('+'), one('?'), one(')'), one('['), one('/')}, nil},
		{"[é-😀]", false, []part.Range{{First: 'é', Last: 0x1F600}}, nil},
	} {
		got, err := Pattern(c.pattern)
		want := only(part.Class{Not: c.not, Ranges: c.ranges, Shorthands: c.many})
		if err != nil || !reflect.DeepEqual(got, want) {
			t.Errorf("Pattern(%q) = %#v, %v, want %#v", c.pattern, got, err, want)
		}
	}
}

func syntaxFault(pattern string) (int, bool) {
	_, err := Pattern(pattern)
	var f *fault.Fault
	if errors.Is(err, fault.Syntax) && errors.As(err, &f) {
		return f.At, true
	}
	return 0, false
}

// The first thing that is wrong counts: what stands behind it changes nothing,
// and without it nothing was wrong, or something only not yet whole.
func TestWhereSyntaxIsWrong(t *testing.T) {
	words := []string{"a", "-", "^", `\`, "[", "]", "(", ")", "?", ":", "*", "{", "2", ",", "}", "|", "u", "x", "é"}
	var extend func(pattern string, more int)
	extend = func(pattern string, more int) {
		checkPlace(t, pattern)
		if more == 0 || t.Failed() {
			return
		}
		for _, word := range words {
			extend(pattern+word, more-1)
		}
	}
	for _, begin := range []string{"", "a{2", "a{2,", "[a", `[\`, "(?", `\u{1`, `\uD83D\u`} {
		extend(begin, 3)
	}
}

func checkPlace(t *testing.T, pattern string) {
	at, wrong := syntaxFault(pattern)
	if !wrong || at == len(pattern) {
		return
	}
	if at < 0 || at > len(pattern) {
		t.Errorf("%q: wrong at %d", pattern, at)
		return
	}
	if _, err := Pattern(pattern[:at]); err != nil {
		if before, wrong := syntaxFault(pattern[:at]); !wrong || before != at {
			t.Errorf("%q: wrong at %d, but %q too: %v", pattern, at, pattern[:at], err)
		}
	}
	for _, more := range []string{"a", "}", "]", ")", "0", "*"} {
		if with, wrong := syntaxFault(pattern + more); !wrong || with != at {
			t.Errorf("%q: wrong at %d, but with %q at %d", pattern, at, more, with)
		}
	}
}
