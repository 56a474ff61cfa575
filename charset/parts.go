package charset

import (
	"iter"

	"lineal/part"
)

// Matched is the set of the characters that a part of a pattern matches: a dot,
// a character, a shorthand or a class. Other parts match none by themselves.
func Matched(p part.Part) Set {
	switch p := p.(type) {
	case part.Any:
		return lineEnds().Not()
	case part.Char:
		return listed(span{rune(p), rune(p)})
	case part.Shorthand:
		return shorthand(p)
	case part.Class:
		return class(p)
	}
	return Set{}
}

func shorthand(s part.Shorthand) Set {
	switch s {
	case 'd':
		return digits()
	case 'D':
		return digits().Not()
	case 'w':
		return Word()
	case 'W':
		return Word().Not()
	case 's':
		return spaces()
	case 'S':
		return spaces().Not()
	}
	return Set{}
}

func class(c part.Class) Set {
	members := Of(memberRanges(c))
	if c.Not {
		return members.Not()
	}
	return members
}

// memberRanges tells what the members of a class have, in the pattern's order.
func memberRanges(c part.Class) iter.Seq2[rune, rune] {
	return func(yield func(rune, rune) bool) {
		for _, r := range c.Ranges {
			if !yield(rune(r.First), rune(r.Last)) {
				return
			}
		}
		for _, s := range c.Shorthands {
			for first, last := range shorthand(s).Ranges() {
				if !yield(first, last) {
					return
				}
			}
		}
	}
}

func listed(spans ...span) Set { return Of(each(spans)) }

// Word is the set of a word's characters.
func Word() Set {
	return listed(span{'a', 'z'}, span{'A', 'Z'}, span{'0', '9'}, span{'_', '_'})
}

func digits() Set { return listed(span{'0', '9'}) }

func lineEnds() Set {
	return listed(span{0x0A, 0x0A}, span{0x0D, 0x0D}, span{0x2028, 0x2029})
}

func spaces() Set {
	return listed(
		span{0x09, 0x0D}, span{0x20, 0x20}, span{0xA0, 0xA0}, span{0x1680, 0x1680},
		span{0x2000, 0x200A}, span{0x2028, 0x2029}, span{0x202F, 0x202F},
		span{0x205F, 0x205F}, span{0x3000, 0x3000}, span{0xFEFF, 0xFEFF},
	)
}
