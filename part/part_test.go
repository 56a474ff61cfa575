package part

import (
	"testing"

	"lineal/api"
)

func chars(n int) Part {
	s := Sequence{}
	for range n {
		s = append(s, Char('a'))
	}
	return s
}

func TestSizes(t *testing.T) {
	for _, c := range []struct {
		name string
		part Part
		want int
	}{
		{"no terms", Sequence{}, 1},
		{"one empty alternative", Choice{Sequence{}}, 1},
		{"three empty alternatives", Choice{Sequence{}, Sequence{}, Sequence{}}, 3},
		{"an assertion", Edge, 2},
		{"a dot", Any{}, 2},
		{"a character", Char('a'), 2},
		{"a shorthand", Shorthand('d'), 2},
		{"a class", Class{Ranges: []Range{{'a', 'z'}, {'0', '9'}}}, 2},
		{"terms", Sequence{Char('a'), Begin, Any{}}, 4},
		{"alternatives", Choice{chars(2), chars(3)}, 7},
		{"x*", Repeat{chars(3), 0, NoMost}, 5},
		{"x+", Repeat{chars(3), 1, NoMost}, 5},
		{"x?", Repeat{chars(3), 0, 1}, 5},
		{"x{4}", Repeat{chars(3), 4, 4}, 13},
		{"x{0}", Repeat{chars(3), 0, 0}, 1},
		{"x{4,}", Repeat{chars(3), 4, NoMost}, 14},
		{"x{2,5}", Repeat{chars(3), 2, 5}, 19},
		{"an empty x*", Repeat{chars(0), 0, NoMost}, 2},
		{"an empty x{2,5}", Repeat{chars(0), 2, 5}, 4},
		{"299 and 1", chars(299), 300},
	} {
		if got := PatternSize(c.part); got != c.want {
			t.Errorf("%s: %d, want %d", c.name, got, c.want)
		}
	}
}

func hundredfold(p Part, times int) Part {
	for range times {
		p = Repeat{p, 100, 100}
	}
	return p
}

func TestSizesThatAreTooGreat(t *testing.T) {
	huge := hundredfold(Char('a'), 40)
	for _, p := range []Part{
		chars(300), hundredfold(Char('a'), 2), huge,
		Sequence{huge, huge}, Choice{huge, huge}, Repeat{huge, 0, NoMost}, Repeat{huge, 0, 100},
	} {
		if got := PatternSize(p); got <= api.MaxSize {
			t.Errorf("a size above MaxSize is told as %d", got)
		}
	}
	if got := PatternSize(Repeat{huge, 0, 0}); got != 1 {
		t.Errorf("none of something huge: %d", got)
	}
	if got := PatternSize(hundredfold(chars(0), 40)); got != 1 {
		t.Errorf("nothing, many times: %d", got)
	}
}
