package chars_test

import (
	"slices"
	"strings"
	"testing"
	"unicode/utf8"

	"slate/chars"
)

func read(text string) []int {
	var r chars.Reader
	var list []int
	for i := range len(text) {
		list = r.Take(list, text[i])
	}
	return r.End(list)
}

// beginnings: every piece that ends within a character. They come from the library's way of writing, not from the bounds that the reader has.
func beginnings() map[string]int {
	all := map[string]int{}
	for c := rune(0); c <= utf8.MaxRune; c++ {
		if !utf8.ValidRune(c) {
			continue
		}
		s := string(c)
		for n := 1; n < len(s); n++ {
			all[s[:n]] = n
		}
	}
	return all
}

func expected(text string, begun map[string]int) []int {
	var list []int
	for len(text) > 0 {
		c, n := utf8.DecodeRuneInString(text)
		if c == utf8.RuneError && n == 1 {
			for n < len(text) && begun[text[:n+1]] > 0 {
				n++
			}
		}
		list = append(list, int(c))
		text = text[n:]
	}
	return list
}

func TestReaderAtEveryTwoBytes(t *testing.T) {
	begun := beginnings()
	for a := range 256 {
		for b := range 256 {
			for _, tail := range []string{"", "\x80", "A"} {
				text := string([]byte{byte(a), byte(b)}) + tail
				if got, want := read(text), expected(text, begun); !slices.Equal(got, want) {
					t.Fatalf("P3: %x: %x, want %x", text, got, want)
				}
			}
		}
	}
}

func TestReaderAtEdgeBytes(t *testing.T) {
	begun := beginnings()
	edges := "\x00A\x7f\x80\x8f\x90\x9f\xa0\xbf\xc0\xc1\xc2\xdf\xe0\xe1\xec\xed\xee\xef\xf0\xf1\xf3\xf4\xf5\xff"
	texts := []string{""}
	for range 4 {
		var longer []string
		for _, text := range texts {
			for i := range len(edges) {
				longer = append(longer, text+edges[i:i+1])
			}
		}
		texts = longer
		for _, text := range texts {
			if got, want := read(text), expected(text, begun); !slices.Equal(got, want) {
				t.Fatalf("P3: %x: %x, want %x", text, got, want)
			}
		}
	}
}

func TestReaderAtEveryCharacter(t *testing.T) {
	for c := range utf8.MaxRune + 1 {
		if !utf8.ValidRune(c) {
			continue
		}
		if got := read(string(c)); len(got) != 1 || got[0] != int(c) {
			t.Fatalf("P3: U+%04X is read as %x", c, got)
		}
	}
}

func TestReaderTellsWithTheByteThatShowsIt(t *testing.T) {
	for _, x := range []struct {
		text string
		want [][]int
	}{
		{"\xc3\xa9", [][]int{nil, {0xE9}}},
		{"\xe2\x82A", [][]int{nil, nil, {chars.Broken, 'A'}}},
		{"\xe2\x82\xff", [][]int{nil, nil, {chars.Broken, chars.Broken}}},
		{"\xe2\x82\xc3\xa9", [][]int{nil, nil, {chars.Broken}, {0xE9}}},
		{"\xe0\x9f", [][]int{nil, {chars.Broken, chars.Broken}}},
	} {
		var r chars.Reader
		for i, want := range x.want {
			if got := r.Take(nil, x.text[i]); !slices.Equal(got, want) {
				t.Errorf("P3: byte %d of %x: %x, want %x", i, x.text, got, want)
			}
		}
	}
}

func TestReaderEndForgets(t *testing.T) {
	var r chars.Reader
	list := r.End(r.Take(nil, 0xE2))
	list = r.Take(r.End(list), 0x82)
	if want := []int{chars.Broken, chars.Broken}; !slices.Equal(list, want) {
		t.Errorf("P3: behind an end: %x, want %x", list, want)
	}
}

func TestReaderKeepsWhatStandsAhead(t *testing.T) {
	var r chars.Reader
	list := r.Take([]int{1, 2}, 'x')
	if !slices.Equal(list, []int{1, 2, 'x'}) {
		t.Errorf("P3: %v", list)
	}
}

func TestReaderAtLongTexts(t *testing.T) {
	for text, want := range map[string]int{"a": 1, "\xff": 1, "\xf0\x9f\x98": 1, "\xe2\x82\xac": 1, "\xf4\x90": 2} {
		const times = 100000
		if got := read(strings.Repeat(text, times)); len(got) != want*times {
			t.Errorf("P3: %x, %d times: %d characters", text, times, len(got))
		}
	}
}
