package terminal

import (
	"strings"

	"slate/api"
	"slate/chars"
)

// still: the finals behind which the cursor does not wait any more. That of the region is not among them: where it names no region, it does nothing at all.
const still = "ABCDGdHf@PXLM"

func (t *Terminal) print(c int) {
	width := chars.Width(c)
	if width == 0 || width > len(t.tabs) {
		return
	}
	if t.state.Waits {
		t.state.Waits = false
		t.nextLine()
	}
	if t.state.Col+width > len(t.tabs) {
		if !t.state.Wrap {
			return
		}
		t.nextLine()
	}
	if t.state.Insert {
		t.row().Insert(t.state.Col, width)
	}
	t.row().Put(t.state.Col, t.spelt(c), width, t.state.Pen)
	behind := t.state.Col + width
	t.toCol(behind)
	t.state.Waits = t.state.Wrap && behind > t.lastCol()
}

// spelt tells what c is in the alphabet that is in use.
func (t *Terminal) spelt(c int) int {
	alphabet := t.state.First
	if t.state.Use == 1 {
		alphabet = t.state.Second
	}
	if alphabet == Lines {
		return chars.Line(c)
	}
	return c
}

func (t *Terminal) control(c int) {
	if '\b' <= c && c <= '\r' {
		t.state.Waits = false
	}
	switch c {
	case '\b':
		t.toCol(t.state.Col - 1)
	case '\t':
		t.nextTab()
	case '\n', '\v', '\f':
		t.down()
	case '\r':
		t.toCol(0)
	case 14:
		t.state.Use = 1
	case 15:
		t.state.Use = 0
	}
}

func (t *Terminal) escape(e api.Event) {
	switch e.Mark {
	case 0:
		t.bareEscape(e.Final)
	case '(':
		t.state.First = alphabetOf(e.Final, t.state.First)
	case ')':
		t.state.Second = alphabetOf(e.Final, t.state.Second)
	}
}

// alphabetOf tells the alphabet that a final names, or the one before, if it names none.
func alphabetOf(final, before int) int {
	switch final {
	case 'B':
		return Letters
	case '0':
		return Lines
	}
	return before
}

func (t *Terminal) bareEscape(final int) {
	switch final {
	case '7':
		t.save()
	case '8':
		t.restore()
	case 'D':
		t.state.Waits = false
		t.down()
	case 'M':
		t.state.Waits = false
		t.up()
	case 'E':
		t.state.Waits = false
		t.nextLine()
	case 'H':
		t.tabs[t.state.Col] = true
	case 'c':
		*t = *New(t.Size())
	}
}

func (t *Terminal) sequence(e api.Event) {
	switch e.Mark {
	case 0:
		if strings.IndexByte(still, byte(e.Final)) >= 0 {
			t.state.Waits = false
		}
		// No two of these know the same final.
		t.move(e)
		t.edit(e)
		t.adjust(e)
	case '?':
		if e.Final == 'h' || e.Final == 'l' {
			t.set(e.Params[:e.Count], e.Final == 'h')
		}
	}
}

// times reads a number that is told as n. One that is not there is 0 in an event.
func times(n int) int { return max(n, 1) }

func amount(n int) int { return max(n, 0) }
