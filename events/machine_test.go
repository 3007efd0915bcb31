package events_test

import (
	"fmt"
	"slices"
	"strings"
	"testing"
	"unicode/utf8"

	"slate/api"
	"slate/events"
)

func read(text string) []api.Event {
	var m events.Machine
	var list []api.Event
	for _, c := range text {
		if e, ok := m.Take(int(c)); ok {
			list = append(list, e)
		} else if e != (api.Event{}) {
			panic(fmt.Sprintf("no event, but %v", e))
		}
	}
	return list
}

func printed(text string) []api.Event {
	var list []api.Event
	for _, c := range text {
		list = append(list, api.Event{Kind: api.Print, Rune: int(c)})
	}
	return list
}

func control(c int) []api.Event { return []api.Event{{Kind: api.Control, Rune: c}} }

func escaped(mark, final int) []api.Event {
	return []api.Event{{Kind: api.Escape, Mark: mark, Final: final}}
}

func sequence(mark, final int, numbers ...int) []api.Event {
	e := api.Event{Kind: api.Sequence, Mark: mark, Final: final, Count: len(numbers)}
	copy(e.Params[:], numbers)
	return []api.Event{e}
}

// probes: what "?7mx" and "7mx" are read as behind a text that leaves the machine in a mode, without a mark and without digits other than noughts.
var probes = map[string][2][]api.Event{
	"PLAIN":   {printed("?7mx"), printed("7mx")},
	"ESCAPE":  {slices.Concat(escaped(0, '?'), printed("7mx")), slices.Concat(escaped(0, '7'), printed("mx"))},
	"FIRST":   {slices.Concat(sequence('?', 'm', 7), printed("x")), slices.Concat(sequence(0, 'm', 7), printed("x"))},
	"NUMBERS": {printed("x"), slices.Concat(sequence(0, 'm', 7), printed("x"))},
	"SPOILT":  {printed("x"), printed("x")},
	"TEXT":    {nil, nil},
}

type rule struct {
	first, last int
	event       func(c int) []api.Event
	next        string // "" where what is kept shows in the probes: TestMarksAndNumbers has those
}

func none(int) []api.Event { return nil }

func shown(c int) []api.Event { return printed(string(rune(c))) }

func bare(c int) []api.Event { return escaped(0, c) }

// anywhere: the rules of every mode but TEXT; they go ahead of the mode's own. "same" is the mode itself.
var anywhere = []rule{
	{0x18, 0x18, none, "PLAIN"}, {0x1A, 0x1A, none, "PLAIN"}, {0x1B, 0x1B, none, "ESCAPE"}, {0, 0x1F, control, "same"}, {0x7F, 0x7F, none, "same"},
}

var modes = []struct {
	name, ahead string
	rules       []rule
}{
	{"PLAIN", "", slices.Concat(anywhere, []rule{{0x20, 0x10FFFF, shown, "PLAIN"}})},
	{"ESCAPE", "\x1b", slices.Concat(anywhere, []rule{
		{0x20, 0x2F, none, ""}, {'[', '[', none, "FIRST"},
		{']', ']', none, "TEXT"}, {'P', 'P', none, "TEXT"}, {'X', 'X', none, "TEXT"}, {'^', '^', none, "TEXT"}, {'_', '_', none, "TEXT"},
		{0x30, 0x7E, bare, "PLAIN"}, {0x80, 0x10FFFF, none, "PLAIN"},
	})},
	{"FIRST", "\x1b[", slices.Concat(anywhere, []rule{
		{'0', '0', none, "NUMBERS"}, {'1', '9', none, ""}, {';', '?', none, ""},
		{0x40, 0x7E, func(c int) []api.Event { return sequence(0, c, -1) }, "PLAIN"}, {0x20, 0x10FFFF, none, "SPOILT"},
	})},
	{"NUMBERS", "\x1b[0", slices.Concat(anywhere, []rule{
		{'0', '0', none, "NUMBERS"}, {'1', '9', none, ""}, {';', ';', none, ""},
		{0x40, 0x7E, func(c int) []api.Event { return sequence(0, c, 0) }, "PLAIN"}, {0x20, 0x10FFFF, none, "SPOILT"},
	})},
	{"SPOILT", "\x1b[:", slices.Concat(anywhere, []rule{{0x40, 0x7E, none, "PLAIN"}, {0x20, 0x10FFFF, none, "SPOILT"}})},
	{"TEXT", "\x1b]", []rule{
		{0x07, 0x07, none, "PLAIN"}, {0x9C, 0x9C, none, "PLAIN"}, {0x18, 0x18, none, "PLAIN"}, {0x1A, 0x1A, none, "PLAIN"}, {0x1B, 0x1B, none, "ESCAPE"},
		{0, 0x10FFFF, none, "TEXT"},
	}},
}

func TestEveryCharacterInEveryMode(t *testing.T) {
	for _, mode := range modes {
		for c := range 0x110000 {
			if c > 0x400 && c%211 != 0 && c != 0xFFFD && c != 0x10FFFF || !utf8.ValidRune(rune(c)) {
				continue
			}
			i := slices.IndexFunc(mode.rules, func(r rule) bool { return r.first <= c && c <= r.last })
			next := mode.rules[i].next
			if next == "same" {
				next = mode.name
			}
			checkStep(t, mode.name, mode.ahead+string(rune(c)), mode.rules[i].event(c), next)
		}
	}
}

func checkStep(t *testing.T, from, text string, event []api.Event, next string) {
	t.Helper()
	if got := read(text); !slices.Equal(got, event) {
		t.Errorf("P4: from %s, %q: %v, want %v", from, text, got, event)
	}
	if next == "" {
		return
	}
	for i, probe := range []string{"?7mx", "7mx"} {
		if got, want := read(text+probe), slices.Concat(event, probes[next][i]); !slices.Equal(got, want) {
			t.Errorf("P4: from %s, %q is not in %s behind it: %q is %v, want %v", from, text, next, probe, got, want)
		}
	}
}

func TestMarksAndNumbers(t *testing.T) {
	for c := 0x20; c <= 0x2F; c++ {
		check(t, "\x1b"+string(rune(c))+"0", escaped(c, '0'))
		check(t, "\x1b("+string(rune(c))+"~", escaped(c, '~'))
		check(t, "\x1b"+string(rune(c))+"[m", sequence(0, 'm', -1))
		check(t, "\x1b"+string(rune(c))+"\x1b7", escaped(0, '7'))
	}
	for _, c := range "?>=<" {
		mark := "\x1b[" + string(c)
		check(t, mark+"h", sequence(int(c), 'h', -1))
		check(t, mark+"6;7l", sequence(int(c), 'l', 6, 7))
		check(t, mark+"?lx", printed("x"))
		check(t, mark+"\x1b[m", sequence(0, 'm', -1))
		check(t, mark+"\x1b8", escaped(0, '8'))
	}
	for d := range 10 {
		check(t, fmt.Sprintf("\x1b[%dm", d), sequence(0, 'm', d))
		check(t, fmt.Sprintf("\x1b[7%dm", d), sequence(0, 'm', 70+d))
		check(t, fmt.Sprintf("\x1b[%d?mx", d), printed("x"))
	}
	check(t, "\x1b[;m", sequence(0, 'm', -1, -1))
	check(t, "\x1b[;?mx", printed("x"))
	check(t, "\x1b[1;;3m", sequence(0, 'm', 1, -1, 3))
	check(t, "\x1b[1m\x1b[;2m", slices.Concat(sequence(0, 'm', 1), sequence(0, 'm', -1, 2)))
}

func check(t *testing.T, text string, want []api.Event) {
	t.Helper()
	if got := read(text); !slices.Equal(got, want) {
		t.Errorf("P4: %q: %v, want %v", text, got, want)
	}
}

func TestNumbersHaveABound(t *testing.T) {
	for text, want := range map[string]int{
		"0": 0, "0000000000000000000000001": 1, "65534": 65534, "65535": 65535, "65536": 65535, "655350": 65535, "99999": 65535,
		"18446744073709551616": 65535, "18446744073709551617": 65535, strings.Repeat("9", 1000) + strings.Repeat("0", 1000): 65535,
	} {
		check(t, "\x1b["+text+"d", sequence(0, 'd', want))
	}
}

func TestNumbersAreAtMostSixteen(t *testing.T) {
	var texts []string
	var kept []int
	for i := range 40 {
		texts = append(texts, fmt.Sprint(i))
		if i < api.MaxParams {
			kept = append(kept, i)
		}
		check(t, "\x1b["+strings.Join(texts, ";")+"m", sequence(0, 'm', kept...))
		check(t, "\x1b[?"+strings.Join(texts, ";")+";m", sequence('?', 'm', slices.Concat(kept, []int{-1})[:min(len(texts)+1, api.MaxParams)]...))
	}
}

func TestControlsWithinSequences(t *testing.T) {
	check(t, "\x1b[\n?\r1\x007\x7f;\t5h", slices.Concat(control(10), control(13), control(0), control(9), sequence('?', 'h', 17, 5)))
	check(t, "\x1b\n(\x1f0", slices.Concat(control(10), control(31), escaped('(', '0')))
	check(t, "\x1b[:\n2;mx", slices.Concat(control(10), printed("x")))
	check(t, "\x1b]\n\x1f\x7fm\ax", printed("x"))
}

func TestSequencesThatAreBrokenOff(t *testing.T) {
	for _, off := range []string{"\x18", "\x1a"} {
		for _, ahead := range []string{"\x1b", "\x1b(", "\x1b[", "\x1b[?", "\x1b[?1;2", "\x1b[:", "\x1b]ab"} {
			check(t, ahead+off+"(m", printed("(m"))
			check(t, ahead+off+"\x1b[m", sequence(0, 'm', -1))
			check(t, ahead+"\x1b[5m", sequence(0, 'm', 5))
			check(t, ahead, nil)
		}
	}
}
