package slate_test

import (
	"math"
	"math/rand"
	"slices"
	"strings"
	"testing"

	"slate/api"
	"slate/slate"
)

var numbers = []int{math.MinInt, math.MinInt32, -65536, -1, 0, 1, 2, 7, 8, 11, 12, 13, 39, 40, 41, 65535, 65536, 0x10FFFF, 0x110000, math.MaxInt32, math.MaxInt}

// pieces: bytes of every kind that the characters and the machine tell apart, so that texts drawn from them go deep.
var pieces = []string{
	"a", "j", " ", "~", "\x7f", "\x00", "\a", "\b", "\t", "\n", "\r", "\x0e", "\x0f", "\x18", "\x1a", "\x1b", "\x1b[", "\x1b]", "\x1b(", "[", "]", "?", ">", ";", ":", "0", "9", "65535",
	"m", "h", "l", "r", "H", "J", "@", "c", "é", "世", "😀", "\u0301", "\u009c", "\x80", "\xbf", "\xc2", "\xe0", "\xe2\x82", "\xed", "\xf0\x9f", "\xf4", "\xff",
}

func drawText(r *rand.Rand) string {
	var b strings.Builder
	for range r.Intn(30) {
		b.WriteString(pieces[r.Intn(len(pieces))])
	}
	return b.String()
}

func longTexts() []string {
	var list []string
	for _, piece := range pieces {
		list = append(list, strings.Repeat(piece, 20000), "\x1b["+strings.Repeat(piece, 20000), "\x1b]"+strings.Repeat(piece, 20000))
	}
	return list
}

func TestTextCallsEnd(t *testing.T) {
	r := rand.New(rand.NewSource(1))
	texts := longTexts()
	for range 20000 {
		texts = append(texts, drawText(r))
	}
	for _, text := range texts {
		runes, events := slate.Runes(text), slate.Events(text)
		if len(runes) > len(text) || len(events) > len(runes) {
			t.Fatalf("P1: of %d bytes %d characters and %d events", len(text), len(runes), len(events))
		}
	}
	for _, n := range numbers {
		if w := slate.Width(n); w < 0 || w > 2 {
			t.Errorf("P1: Width(%d) = %d", n, w)
		}
	}
}

func TestTerminalCallsEnd(t *testing.T) {
	for _, rows := range numbers {
		for _, cols := range numbers {
			term, no := slate.New(rows, cols)
			if no != api.OK {
				if term != nil {
					t.Errorf("P1: New(%d, %d): an error and a terminal", rows, cols)
				}
				continue
			}
			term.Feed("a\x1b[5;5H世\xe2")
			term.Look()
			term.Dump()
			checkPlaces(t, term, rows, cols)
		}
	}
}

func checkPlaces(t *testing.T, term *slate.Term, row, col int) {
	t.Helper()
	for _, n := range numbers {
		if c, no := term.Cell(n, row, col); no != api.OK && c != (api.Cell{}) {
			t.Errorf("P1: Cell(%d, %d, %d): an error and %v", n, row, col, c)
		}
		if s, no := term.Saved(n); no != api.OK && s != (api.Spot{}) {
			t.Errorf("P1: Saved(%d): an error and %v", n, s)
		}
		if on, no := term.Tab(n); no != api.OK && on {
			t.Errorf("P1: Tab(%d): an error and a stop", n)
		}
	}
}

// scribble writes into all of a list and its spare room.
func scribble[T any](list []T, v T) {
	list = list[:cap(list)]
	for i := range list {
		list[i] = v
	}
}

func TestListsShareNothing(t *testing.T) {
	for n := range 40 {
		text := strings.Repeat("ab\x1b[1;2m\xff", n)
		before, beforeEvents := slate.Runes(text), slate.Events(text)
		runes, events := slices.Clone(before), slices.Clone(beforeEvents)
		scribble(slate.Runes(text), -7)
		scribble(slate.Events(text), api.Event{Kind: -7})
		if !slices.Equal(before, runes) || !slices.Equal(beforeEvents, events) {
			t.Fatalf("P2: %q: a list that came out before is changed", text)
		}
		if !slices.Equal(slate.Runes(text), runes) || !slices.Equal(slate.Events(text), events) {
			t.Fatalf("P2: %q: a list that comes out later is changed", text)
		}
	}
}

func TestAnswersDependOnArgumentsAlone(t *testing.T) {
	want, wantEvents := slate.Runes("\x82a"), slate.Events("m\x82")
	for _, ahead := range []string{"\xe2", "\xf0\x9f", "\x1b", "\x1b[1", "\x1b[:", "\x1b]"} {
		slate.Runes(ahead)
		slate.Events(ahead)
		if got := slate.Runes("\x82a"); !slices.Equal(got, want) {
			t.Errorf("P2: Runes behind %q: %x, want %x", ahead, got, want)
		}
		if got := slate.Events("m\x82"); !slices.Equal(got, wantEvents) {
			t.Errorf("P2: Events behind %q: %v, want %v", ahead, got, wantEvents)
		}
	}
}

func TestRunes(t *testing.T) {
	for text, want := range map[string][]int{
		"":                                 nil,
		"\xc3\xa9\xe2\x82A\xff":            {0xE9, 0xFFFD, 'A', 0xFFFD},
		"\xf0\x80":                         {0xFFFD, 0xFFFD},
		"aé世😀":                             {'a', 0xE9, 0x4E16, 0x1F600},
		"\xe2\x82":                         {0xFFFD},
		"\xf0\x9f\x98":                     {0xFFFD},
		"\xc0\xaf":                         {0xFFFD, 0xFFFD},
		"\xed\x9f\xbf\xed\xa0\x80":         {0xD7FF, 0xFFFD, 0xFFFD, 0xFFFD},
		"\xe0\xa0\x80\xe0\x9f\xbf":         {0x800, 0xFFFD, 0xFFFD, 0xFFFD},
		"\xf0\x90\x80\x80\xf0\x8f\xbf":     {0x10000, 0xFFFD, 0xFFFD, 0xFFFD},
		"\xf4\x8f\xbf\xbf\xf4\x90\x80\x80": {0x10FFFF, 0xFFFD, 0xFFFD, 0xFFFD, 0xFFFD},
	} {
		if got := slate.Runes(text); !slices.Equal(got, want) {
			t.Errorf("P3: Runes(%q) = %x, want %x", text, got, want)
		}
	}
}

func TestWidth(t *testing.T) {
	for c, want := range map[int]int{
		0x4E00: 2, 0x301: 0, 65: 1, 0x1F: 0, 0x20: 1, 0x7E: 1, 0x7F: 0, 0x9F: 0, 0xA0: 1, 0x10FFFF: 1, 0x110000: 1, -1: 1, math.MinInt: 1, math.MaxInt: 1,
	} {
		if got := slate.Width(c); got != want {
			t.Errorf("P3: Width(%#x) = %d, want %d", c, got, want)
		}
	}
}

func TestEvents(t *testing.T) {
	sequence := func(mark, final int, l ...int) api.Event {
		e := api.Event{Kind: api.Sequence, Mark: mark, Final: final, Count: len(l)}
		copy(e.Params[:], l)
		return e
	}
	for text, want := range map[string][]api.Event{
		"":                  nil,
		"a\x1b[1;;3m":       {{Kind: api.Print, Rune: 'a'}, sequence(0, 'm', 1, -1, 3)},
		"\x1b(0":            {{Kind: api.Escape, Mark: '(', Final: '0'}},
		"\x1b[?7l":          {sequence('?', 'l', 7)},
		"\x1b[m":            {sequence(0, 'm', -1)},
		"\x1b[\xff1mé\n":    {{Kind: api.Print, Rune: 0xE9}, {Kind: api.Control, Rune: 10}},
		"\x1b]\xc2\x9c\x9c": {{Kind: api.Print, Rune: 0xFFFD}}, // the character U+009C ends a text, the byte 9C is none
		"\x1b]\x9ca\aé":     {{Kind: api.Print, Rune: 0xE9}},
		"a\x1b[1\xe2\x82":   {{Kind: api.Print, Rune: 'a'}},
		"\xe2\x82":          {{Kind: api.Print, Rune: 0xFFFD}},
		"\xe2\x1b7":         {{Kind: api.Print, Rune: 0xFFFD}, {Kind: api.Escape, Final: '7'}},
	} {
		if got := slate.Events(text); !slices.Equal(got, want) {
			t.Errorf("P4: Events(%q) = %v, want %v", text, got, want)
		}
	}
}
