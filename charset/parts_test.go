package charset

import (
	"strings"
	"testing"
	"unicode/utf8"

	"lineal/part"
)

// The document's lists, each character written out.
const (
	digitList   = "0123456789"
	wordList    = digitList + "_abcdefghijklmnopqrstuvwxyzABCDEFGHIJKLMNOPQRSTUVWXYZ"
	spaceList   = "\t\n\v\f\r \u00A0\u1680\u2000\u2001\u2002\u2003\u2004\u2005\u2006\u2007\u2008\u2009\u200A\u2028\u2029\u202F\u205F\u3000\uFEFF"
	lineEndList = "\n\r\u2028\u2029"
)

func checkEveryCharacter(t *testing.T, name string, p part.Part, want func(rune) bool) {
	t.Helper()
	set := Matched(p)
	for char := rune(0); char <= utf8.MaxRune; char++ {
		if utf8.ValidRune(char) && set.Has(char) != want(char) {
			t.Errorf("%s has U+%04X: %v", name, char, !want(char))
			return
		}
	}
	for first, last := range set.Ranges() {
		if !utf8.ValidRune(first) || !utf8.ValidRune(last) || first < 0xD800 && last > 0xDFFF {
			t.Errorf("%s has what no character is, in %x to %x", name, first, last)
		}
	}
}

func of(list string) func(rune) bool {
	return func(char rune) bool { return strings.ContainsRune(list, char) }
}

func notOf(list string) func(rune) bool {
	return func(char rune) bool { return !strings.ContainsRune(list, char) }
}

func TestEscapesOfManyCharacters(t *testing.T) {
	checkEveryCharacter(t, `\d`, part.Shorthand('d'), of(digitList))
	checkEveryCharacter(t, `\D`, part.Shorthand('D'), notOf(digitList))
	checkEveryCharacter(t, `\w`, part.Shorthand('w'), of(wordList))
	checkEveryCharacter(t, `\W`, part.Shorthand('W'), notOf(wordList))
	checkEveryCharacter(t, `\s`, part.Shorthand('s'), of(spaceList))
	checkEveryCharacter(t, `\S`, part.Shorthand('S'), notOf(spaceList))
}

func TestDotAndCharacters(t *testing.T) {
	checkEveryCharacter(t, ".", part.Any{}, notOf(lineEndList))
	checkEveryCharacter(t, "a", part.Char('a'), of("a"))
	checkEveryCharacter(t, "U+0000", part.Char(0), of("\x00"))
	checkEveryCharacter(t, "U+10FFFF", part.Char(0x10FFFF), of("\U0010FFFF"))
	checkEveryCharacter(t, `\uD83D`, part.Char(0xD83D), of(""))
	checkEveryCharacter(t, `\uDFFF`, part.Char(0xDFFF), of(""))
}

func TestClasses(t *testing.T) {
	letters := []part.Range{{First: 'e', Last: 'e'}, {First: 'a', Last: 'c'}, {First: '-', Last: '-'}}
	checkEveryCharacter(t, "[]", part.Class{}, of(""))
	checkEveryCharacter(t, "[^]", part.Class{Not: true}, notOf(""))
	checkEveryCharacter(t, "[ea-c-]", part.Class{Ranges: letters}, of("-abce"))
	checkEveryCharacter(t, "[^ea-c-]", part.Class{Not: true, Ranges: letters}, notOf("-abce"))
	checkEveryCharacter(t, `[\s\d]`, part.Class{Shorthands: []part.Shorthand{'s', 'd'}}, of(spaceList+digitList))
	checkEveryCharacter(t, `[^\s\d]`, part.Class{Not: true, Shorthands: []part.Shorthand{'s', 'd'}}, notOf(spaceList+digitList))
	checkEveryCharacter(t, `[\W\w]`, part.Class{Shorthands: []part.Shorthand{'W', 'w'}}, notOf(""))
	checkEveryCharacter(t, `[^\W\w]`, part.Class{Not: true, Shorthands: []part.Shorthand{'W', 'w'}}, of(""))
	checkEveryCharacter(t, `[\D5]`, part.Class{Ranges: []part.Range{{First: '5', Last: '5'}}, Shorthands: []part.Shorthand{'D'}}, notOf("012346789"))
	checkEveryCharacter(t, `[^\W_]`, part.Class{Not: true, Ranges: []part.Range{{First: '_', Last: '_'}}, Shorthands: []part.Shorthand{'W'}}, of(strings.ReplaceAll(wordList, "_", "")))
	halves := []part.Range{{First: 0xD83D, Last: 0xE000}}
	checkEveryCharacter(t, `[\uD83D-\uE000]`, part.Class{Ranges: halves}, of("\uE000"))
	checkEveryCharacter(t, `[^\uD83D-\uE000]`, part.Class{Not: true, Ranges: halves}, notOf("\uE000"))
}

func TestPartsOfNoCharacter(t *testing.T) {
	checkEveryCharacter(t, "^", part.Begin, of(""))
	checkEveryCharacter(t, "an unknown shorthand", part.Shorthand('q'), of(""))
}
