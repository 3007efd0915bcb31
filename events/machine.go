// Package events: characters as events.
package events

import "slate/api"

type mode int

const (
	plain mode = iota
	escape
	first
	numbers
	spoilt
	text
)

// The characters that count in every mode, and those that end a text.
const (
	bell   = 0x07
	cancel = 0x18
	stop   = 0x1A
	esc    = 0x1B
	del    = 0x7F
	closer = 0x9C
)

// Machine reads characters one by one. Its zero value is in PLAIN.
type Machine struct {
	mode   mode
	mark   int
	count  int // the numbers so far; one above MaxParams stands for all that are not kept
	params [api.MaxParams]int
}

// Take reads a character and tells its event, if it makes one.
func (m *Machine) Take(c int) (api.Event, bool) {
	switch {
	case c == cancel || c == stop:
		*m = Machine{}
	case c == esc:
		*m = Machine{mode: escape}
	case m.mode == text:
		m.skip(c)
	case c < ' ':
		return api.Event{Kind: api.Control, Rune: c}, true
	case c != del:
		return m.takeVisible(c)
	}
	return api.Event{}, false
}

// skip reads a character of a text, which is nothing unless it ends it.
func (m *Machine) skip(c int) {
	if c == bell || c == closer {
		*m = Machine{}
	}
}

// takeVisible reads a character from U+0020 on in any mode but TEXT.
func (m *Machine) takeVisible(c int) (api.Event, bool) {
	switch m.mode {
	case plain:
		return api.Event{Kind: api.Print, Rune: c}, true
	case escape:
		return m.takeEscape(c)
	case first:
		m.mode = numbers
		if isSequenceMark(c) {
			m.mark = c
			return api.Event{}, false
		}
		fallthrough
	case numbers:
		return m.takeNumber(c)
	case spoilt:
		if isFinal(c) {
			*m = Machine{}
		}
	}
	return api.Event{}, false
}

func (m *Machine) takeEscape(c int) (api.Event, bool) {
	switch {
	case c == '[':
		*m = Machine{mode: first}
		m.beginNumber()
	case beginsText(c):
		*m = Machine{mode: text}
	case c <= '/':
		m.mark = c
	case c <= '~':
		e := api.Event{Kind: api.Escape, Mark: m.mark, Final: c}
		*m = Machine{}
		return e, true
	default:
		*m = Machine{}
	}
	return api.Event{}, false
}

func (m *Machine) takeNumber(c int) (api.Event, bool) {
	switch {
	case '0' <= c && c <= '9':
		m.joinDigit(c - '0')
	case c == ';':
		m.beginNumber()
	case isFinal(c):
		e := m.sequence(c)
		*m = Machine{}
		return e, true
	default:
		*m = Machine{mode: spoilt}
	}
	return api.Event{}, false
}

func (m *Machine) beginNumber() {
	if m.count < api.MaxParams {
		m.params[m.count] = -1
	}
	m.count = min(m.count+1, api.MaxParams+1)
}

func (m *Machine) joinDigit(digit int) {
	if m.count > api.MaxParams {
		return
	}
	before := max(m.params[m.count-1], 0)
	m.params[m.count-1] = min(before*10+digit, api.MaxParam)
}

func (m *Machine) sequence(final int) api.Event {
	return api.Event{
		Kind:   api.Sequence,
		Mark:   m.mark,
		Final:  final,
		Count:  min(m.count, api.MaxParams),
		Params: m.params,
	}
}

func isFinal(c int) bool {
	return '@' <= c && c <= '~'
}

func isSequenceMark(c int) bool {
	return c == '?' || c == '>' || c == '=' || c == '<'
}

func beginsText(c int) bool {
	return c == ']' || c == 'P' || c == 'X' || c == '^' || c == '_'
}
