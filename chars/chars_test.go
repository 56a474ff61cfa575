package chars

import (
	"errors"
	"slices"
	"testing"
	"unicode/utf8"

	"lineal/fault"
)

func TestPlaces(t *testing.T) {
	for _, c := range []struct {
		text string
		want []Letter
	}{
		{"", nil},
		{"ab", []Letter{{0, 'a'}, {1, 'b'}}},
		{"a\xc3\xa9", []Letter{{0, 'a'}, {1, 0xE9}}},
		{"é€😀\x00", []Letter{{0, 0xE9}, {2, 0x20AC}, {5, 0x1F600}, {9, 0}}},
		{"\uFEFF\uFFFD", []Letter{{0, 0xFEFF}, {3, 0xFFFD}}},
	} {
		got, err := Letters(c.text, len(c.text))
		if err != nil || !slices.Equal(got, c.want) {
			t.Errorf("Letters(%q) = %v, %v, want %v", c.text, got, err, c.want)
		}
	}
}

func TestEveryCharacter(t *testing.T) {
	for char := rune(0); char <= utf8.MaxRune; char++ {
		if !utf8.ValidRune(char) {
			continue
		}
		got, err := Letters(string(char), 4)
		if err != nil || !slices.Equal(got, []Letter{{0, char}}) {
			t.Fatalf("character %#x: %v, %v", char, got, err)
		}
	}
}

func TestFirstBadByte(t *testing.T) {
	for _, c := range []struct {
		text string
		at   int
	}{
		{"\xc3\x28", 0}, {"a\xe2\x82", 1}, {"\xc0\x80", 0}, {"\xed\xa0\x80", 0}, {"\xf4\x90\x80\x80", 0}, {"\xf8", 0},
		{"\x80", 0}, {"\xbf", 0}, {"\xc1\xbf", 0}, {"\xc3", 0}, {"\xc3\xc3", 0}, {"\xff", 0}, {"\xfe", 0},
		{"\xe0\x9f\xbf", 0}, {"\xe0\xa0", 0}, {"\xe1\x80\x7f", 0}, {"\xed\xbf\xbf", 0}, {"\xef\xbf\xc0", 0},
		{"\xf0\x8f\xbf\xbf", 0}, {"\xf0\x90\x80", 0}, {"\xf1\x80\x80\x7f", 0}, {"\xf3\x80\xc0\x80", 0}, {"\xf5\x80\x80\x80", 0},
		{"é\xff", 2}, {"€a\x80b", 4}, {"😀\xf0\x9f\x98", 4}, {"a\xff\xff", 1}, {"ab\xe2\x82a", 2},
	} {
		letters, err := Letters(c.text, len(c.text))
		var f *fault.Fault
		if letters != nil || !errors.Is(err, fault.Text) || !errors.As(err, &f) || f.At != c.at {
			t.Errorf("Letters(%q) = %v, %v, want a bad byte at %d", c.text, letters, err, c.at)
		}
	}
}

func TestTooManyBytes(t *testing.T) {
	for _, text := range []string{"abc", "aé", "ab\xff", "\xff\xff\xff", "€"} {
		letters, err := Letters(text, 2)
		var f *fault.Fault
		if letters != nil || !errors.Is(err, fault.Long) || !errors.As(err, &f) || f.At != 2 {
			t.Errorf("Letters(%q, 2) = %v, %v", text, letters, err)
		}
	}
	if got, err := Letters("aé", 3); err != nil || len(got) != 2 {
		t.Errorf("as many bytes as may be: %v, %v", got, err)
	}
}

// Every row of up to four bytes of those at which something changes, held
// against what the library takes for text.
func TestAllRowsOfBytes(t *testing.T) {
	edges := []byte("\x00\x7f\x80\x8f\x90\x9f\xa0\xbf\xc0\xc1\xc2\xdf\xe0\xe1\xec\xed\xee\xef\xf0\xf1\xf3\xf4\xf5\xf8\xff")
	var extend func(row []byte)
	extend = func(row []byte) {
		checkRow(t, string(row))
		if len(row) == 4 || t.Failed() {
			return
		}
		for _, b := range edges {
			extend(append(slices.Clone(row), b))
		}
	}
	extend(nil)
}

func checkRow(t *testing.T, row string) {
	end := 0
	for at, char := range Each(row) {
		want, width := utf8.DecodeRuneInString(row[end:])
		if at != end || char != want || width == 1 && want == utf8.RuneError {
			t.Errorf("in %q: %#x at %d, want %#x at %d", row, char, at, want, end)
		}
		end += width
	}
	if end < len(row) {
		if want, width := utf8.DecodeRuneInString(row[end:]); want != utf8.RuneError || width != 1 {
			t.Errorf("%q: stopped at %d", row, end)
		}
	}
}

func TestStopsWhenNoMoreAreWanted(t *testing.T) {
	for _, text := range []string{"abc", "éé", "€€", "😀😀", "a\xff"} {
		given := 0
		for at := range Each(text) {
			if at != 0 {
				t.Errorf("%q: went on to %d", text, at)
			}
			given++
			break
		}
		if given != 1 {
			t.Errorf("%q: gave %d", text, given)
		}
	}
}

func TestBeginsAnewEachTime(t *testing.T) {
	each := Each("aé")
	for range 2 {
		var got []Letter
		for at, char := range each {
			got = append(got, Letter{at, char})
		}
		if !slices.Equal(got, []Letter{{0, 'a'}, {1, 'é'}}) {
			t.Errorf("got %v", got)
		}
	}
}
