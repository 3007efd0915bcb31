package redraw_test

import (
	"testing"

	"slate/api"
	"slate/redraw"
	"slate/terminal"
)

func printed(t *terminal.Terminal, text string) {
	for _, c := range text {
		t.Take(api.Event{Kind: api.Print, Rune: int(c)})
	}
}

func sequence(final, first int) api.Event {
	return api.Event{Kind: api.Sequence, Final: final, Count: 1, Params: [api.MaxParams]int{first}}
}

func TestBytes(t *testing.T) {
	term := terminal.New(2, 3)
	for _, step := range []struct {
		take func()
		want string
	}{
		{func() {}, ""},
		{func() { printed(term, "ab") }, "\x1b[1;1Hab\x1b[1;3H"},
		{func() { term.Take(sequence('m', 1)) }, "\x1b[1;1Hab\x1b[1;3H\x1b[0;1m"},
		{func() { printed(term, "c") }, "\x1b[1;1Hab\x1b[0;1mc\x1b[1;3Hc"},
		{func() { term.Take(sequence('h', 4)) }, "\x1b[1;1Hab\x1b[0;1mc\x1b[1;3Hc\x1b[4h"},
		{func() { printed(term, "世") }, "\x1b[1;1Hab\x1b[0;1mc\x1b[2;1H世\x1b[2;3H\x1b[4h"},
		{func() { term.Take(api.Event{Kind: api.Escape, Final: 'c'}) }, ""},
	} {
		step.take()
		before := term.State()
		if got := redraw.Bytes(term); got != step.want {
			t.Errorf("P9: %q, want %q", got, step.want)
		}
		if term.State() != before {
			t.Errorf("P2: to tell the bytes changes the terminal: %+v", term.State())
		}
	}
}
