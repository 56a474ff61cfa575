package charset

import (
	"slices"
	"testing"
)

func rangesOf(s Set) []span {
	var all []span
	for first, last := range s.Ranges() {
		all = append(all, span{first, last})
	}
	return all
}

func checkRanges(t *testing.T, s Set, want ...span) {
	t.Helper()
	if got := rangesOf(s); !slices.Equal(got, want) {
		t.Errorf("got the ranges %x, want %x", got, want)
	}
}

func TestRangesAreSortedAndJoined(t *testing.T) {
	checkRanges(t, listed())
	checkRanges(t, listed(span{'a', 'a'}), span{'a', 'a'})
	checkRanges(t, listed(span{'x', 'z'}, span{'a', 'c'}), span{'a', 'c'}, span{'x', 'z'})
	checkRanges(t, listed(span{'d', 'f'}, span{'a', 'c'}), span{'a', 'f'})
	checkRanges(t, listed(span{'e', 'f'}, span{'a', 'c'}), span{'a', 'c'}, span{'e', 'f'})
	checkRanges(t, listed(span{'a', 'z'}, span{'c', 'd'}, span{'e', 'e'}), span{'a', 'z'})
	checkRanges(t, listed(span{'b', 'd'}, span{'c', 'f'}, span{'a', 'b'}), span{'a', 'f'})
	checkRanges(t, listed(span{'a', 'b'}, span{'a', 'd'}, span{'a', 'a'}), span{'a', 'd'})
	checkRanges(t, listed(span{'b', 'a'}))
}

func TestNumbersThatNoCharacterHas(t *testing.T) {
	checkRanges(t, listed(span{0xD800, 0xDFFF}))
	checkRanges(t, listed(span{0xDBFF, 0xDC00}))
	checkRanges(t, listed(span{0xD7FF, 0xE000}), span{0xD7FF, 0xD7FF}, span{0xE000, 0xE000})
	checkRanges(t, listed(span{0xD700, 0xDABC}), span{0xD700, 0xD7FF})
	checkRanges(t, listed(span{0xDABC, 0xE00A}), span{0xE000, 0xE00A})
	checkRanges(t, listed(span{-5, 0x7FFFFFFF}), span{0, 0xD7FF}, span{0xE000, 0x10FFFF})
	checkRanges(t, listed(span{-5, -1}, span{0x110000, 0x110001}))
}

func TestNot(t *testing.T) {
	all := []span{{0, 0xD7FF}, {0xE000, 0x10FFFF}}
	checkRanges(t, Set{}.Not(), all...)
	checkRanges(t, Set{}.Not().Not())
	checkRanges(t, listed(span{0xD900, 0xDA00}).Not(), all...)
	checkRanges(t, listed(span{0, 0}).Not(), span{1, 0xD7FF}, span{0xE000, 0x10FFFF})
	checkRanges(t, listed(span{0x10FFFF, 0x10FFFF}).Not(), span{0, 0xD7FF}, span{0xE000, 0x10FFFE})
	checkRanges(t, listed(span{'b', 'y'}, span{0xD000, 0xF000}).Not(), span{0, 'a'}, span{'z', 0xCFFF}, span{0xF001, 0x10FFFF})
	checkRanges(t, listed(span{'b', 'y'}, span{0xD000, 0xF000}).Not().Not(), span{'b', 'y'}, span{0xD000, 0xD7FF}, span{0xE000, 0xF000})
}

func TestHas(t *testing.T) {
	for _, s := range []Set{{}, listed(span{'c', 'e'}), listed(span{'a', 'a'}, span{'c', 'c'}, span{'e', 'g'}, span{'i', 'z'}), listed(span{0, 0xD7FF}, span{0xE000, 0x10FFFF})} {
		ranges := rangesOf(s)
		for _, char := range []rune{0, 'a', 'b', 'c', 'd', 'e', 'f', 'g', 'h', 'i', 'y', 'z', '{', 0xD7FF, 0xE000, 0x10FFFF} {
			want := slices.ContainsFunc(ranges, func(r span) bool { return r.first <= char && char <= r.last })
			if s.Has(char) != want {
				t.Errorf("%x has %x: %v", ranges, char, !want)
			}
		}
	}
}

func TestStopsWhenNoMoreAreWanted(t *testing.T) {
	s := listed(span{'a', 'b'}, span{'x', 'y'})
	for range 2 {
		var got []rune
		for first := range s.Ranges() {
			got = append(got, first)
			break
		}
		for first := range s.gaps() {
			got = append(got, first)
			if first > 0 {
				break
			}
		}
		if !slices.Equal(got, []rune{'a', 0, 'c'}) {
			t.Errorf("got %x", got)
		}
	}
}

func TestSetsDoNotKeepWhatTheyAreMadeOf(t *testing.T) {
	spans := []span{{'x', 'z'}, {'a', 'c'}}
	s := listed(spans...)
	if spans[0].first != 'x' || spans[1].last != 'c' {
		t.Errorf("written into: %v", spans)
	}
	spans[0], spans[1] = span{'0', '0'}, span{'1', '1'}
	checkRanges(t, s, span{'a', 'c'}, span{'x', 'z'})
	inner := s.Not()
	checkRanges(t, s, span{'a', 'c'}, span{'x', 'z'})
	checkRanges(t, inner.Not(), span{'a', 'c'}, span{'x', 'z'})
}
