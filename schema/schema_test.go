package schema

import (
	"errors"
	"slices"
	"testing"

	"lineal/api"
	"lineal/chars"
	"lineal/fault"
)

func letters(t *testing.T, text string) []chars.Letter {
	t.Helper()
	read, err := chars.Letters(text, api.MaxText)
	if err != nil {
		t.Fatal(err)
	}
	return read
}

func readAll(t *testing.T, given ...api.Schema) []*Schema {
	t.Helper()
	schemas, err := Read(given)
	if err != nil || len(schemas) != len(given) {
		t.Fatalf("Read(%v) = %v, %v", given, schemas, err)
	}
	return schemas
}

func TestPatternsAndFormatsPass(t *testing.T) {
	for _, c := range []struct {
		given           api.Schema
		text            string
		pattern, format bool
	}{
		{api.Schema{}, "x", true, true},
		{api.Schema{Pattern: "["}, "x", true, true},
		{api.Schema{HasPattern: true}, "", true, true},
		{api.Schema{HasPattern: true, Pattern: "y"}, "x", false, true},
		{api.Schema{HasPattern: true, Pattern: "y"}, "xyz", true, true},
		{api.Schema{Format: 3}, "xyz", true, false},
		{api.Schema{Format: 3}, "abc", true, true},
		{api.Schema{HasPattern: true, Pattern: "y", Format: 3}, "x", false, false},
	} {
		c.given.More = leaveAlone
		s, text := readAll(t, c.given)[0], letters(t, c.text)
		for range 2 {
			if s.PatternPasses(text) != c.pattern || s.FormatPasses(text) != c.format {
				t.Errorf("%v does not treat %q as it should", c.given, c.text)
			}
		}
	}
}

func TestEachFormatHasItsPattern(t *testing.T) {
	passing := []string{"?", "2024-02-30", "12:30", "beef", "1.2.3.4", "a@b", "x-y"}
	for format := 1; format <= lastFormat; format++ {
		s := readAll(t, api.Schema{Format: format, More: leaveAlone})[0]
		for i, text := range passing {
			also := format == lastFormat && (i == 1 || i == 3) // words with - between them
			if got := s.FormatPasses(letters(t, text)); got != (i == format || also) {
				t.Errorf("format %d: %q: %v", format, text, got)
			}
		}
	}
}

func TestForChild(t *testing.T) {
	for _, c := range []struct {
		more  int
		key   string
		want  []int
		extra bool
	}{
		{leaveAlone, "a", []int{2, 1}, false}, {tellExtra, "a", []int{2, 1}, false}, {3, "a", []int{2, 1}, false},
		{leaveAlone, "ba", []int{1}, false}, {tellExtra, "", []int{1, 1}, false}, {3, "", []int{1, 1}, false},
		{leaveAlone, "z", nil, false}, {tellExtra, "z", nil, true}, {3, "z", []int{3}, false}, {1, "z", []int{1}, false},
	} {
		free := api.Schema{More: leaveAlone}
		keys, subs := []string{"^a", "a|^$", "^$"}, []int{2, 1, 1}
		s := readAll(t, api.Schema{Keys: keys, Subs: subs, More: c.more}, free, free, free)[0]
		clear(subs)
		if got, extra := s.ForChild(letters(t, c.key)); !slices.Equal(got, c.want) || extra != c.extra {
			t.Errorf("with More %d, %q: %v, %v", c.more, c.key, got, extra)
		}
	}
}

func TestWrongSchemas(t *testing.T) {
	free := api.Schema{More: leaveAlone}
	check := func(given []api.Schema, at int) {
		t.Helper()
		schemas, err := Read(given)
		var f *fault.Fault
		if schemas != nil || !errors.Is(err, fault.Schema) || !errors.As(err, &f) || f.At != at {
			t.Errorf("Read(%v) = %v, %v, want a fault at %d", given, schemas, err, at)
		}
	}
	check(nil, 0)
	check(slices.Repeat([]api.Schema{free}, api.MaxSchemas+1), api.MaxSchemas)
	for _, wrong := range []api.Schema{
		{More: -3}, {More: 0}, {More: 1}, {More: 3}, {Format: -1, More: -2}, {Format: 7, More: -2}, {HasPattern: true, Pattern: "(", More: -2},
		{Keys: []string{"("}, Subs: []int{2}, More: -2}, {Keys: []string{"a"}, More: -2}, {Subs: []int{2}, More: -2}, {Keys: []string{"a"}, Subs: []int{1}, More: -2}, {Keys: []string{"a"}, Subs: []int{3}, More: -2}, {Keys: []string{"a"}, Subs: []int{-1}, More: -2},
		{Keys: make([]string, api.MaxKeys+1), Subs: slices.Repeat([]int{2}, api.MaxKeys+1), More: -2},
	} {
		check([]api.Schema{free, wrong, free}, 1)
		check([]api.Schema{free, wrong, {More: -9}}, 1)
	}
}
