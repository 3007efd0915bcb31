// Package slate: a terminal's screen, and the bytes that draw it again: see DOC.md.
package slate

import (
	"sync"

	"slate/api"
	"slate/chars"
	"slate/events"
	"slate/redraw"
	"slate/terminal"
)

// Term is a terminal.
type Term struct {
	reader   chars.Reader
	machine  events.Machine
	terminal *terminal.Terminal
}

// Runes reads a text as characters (P3).
func Runes(text string) []int {
	var reader chars.Reader
	var list []int
	for i := range len(text) {
		list = reader.Take(list, text[i])
	}
	return reader.End(list)
}

// Width tells the width of a character (P3).
func Width(c int) int { return chars.Width(c) }

// Events reads a text as events (P4).
func Events(text string) []api.Event {
	var machine events.Machine
	var list []api.Event
	for _, c := range Runes(text) {
		if e, ok := machine.Take(c); ok {
			list = append(list, e)
		}
	}
	return list
}

// New makes a terminal afresh (P5).
func New(rows int, cols int) (*Term, api.Errno) {
	if !isSize(rows, cols) {
		return nil, api.ErrSize
	}
	return afresh(rows, cols), api.OK
}

func isSize(rows, cols int) bool {
	return 1 <= rows && rows <= api.MaxRows && 1 <= cols && cols <= api.MaxCols
}

func afresh(rows, cols int) *Term { return &Term{terminal: terminal.New(rows, cols)} }

// Feed takes bytes (P5).
func (t *Term) Feed(text string) {
	var list []int
	for i := range len(text) {
		list = t.reader.Take(list[:0], text[i])
		for _, c := range list {
			if e, ok := t.machine.Take(c); ok {
				t.terminal.Take(e)
			}
		}
	}
}

// Look tells how it stands (P6).
func (t *Term) Look() api.State { return t.terminal.State() }

// Cell tells a cell (P6).
func (t *Term) Cell(screen int, row int, col int) (api.Cell, api.Errno) {
	if !t.terminal.HasScreen(screen) || !t.terminal.HasRow(row) || !t.terminal.HasCol(col) {
		return api.Cell{}, api.ErrPlace
	}
	return t.terminal.Cell(screen, row, col), api.OK
}

// Saved tells a saved spot (P6).
func (t *Term) Saved(screen int) (api.Spot, api.Errno) {
	if !t.terminal.HasScreen(screen) {
		return api.Spot{}, api.ErrPlace
	}
	return t.terminal.Saved(screen), api.OK
}

// Tab tells whether there is a tab stop (P6).
func (t *Term) Tab(col int) (bool, api.Errno) {
	if !t.terminal.HasCol(col) {
		return false, api.ErrPlace
	}
	return t.terminal.Tab(col), api.OK
}

// Dump tells the bytes that draw it again (P8, P9).
func (t *Term) Dump() string { return redraw.Bytes(t.terminal) }

// Wall tells the bytes that draw several terminals (P10).
func Wall(rows int, cols int, texts []string) ([]string, api.Errno) {
	if !isSize(rows, cols) {
		return nil, api.ErrSize
	}
	if len(texts) > api.MaxWall {
		return nil, api.ErrMany
	}
	dumps := make([]string, len(texts))
	var group sync.WaitGroup
	for i, text := range texts {
		group.Add(1)
		go func() {
			defer group.Done()
			term := afresh(rows, cols)
			term.Feed(text)
			dumps[i] = term.Dump()
		}()
	}
	group.Wait()
	return dumps, api.OK
}
