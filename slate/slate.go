// Package slate: a terminal's screen, and the bytes that draw it again: see DOC.md.
package slate

import (
	"slate/api"
	"slate/chars"
	"slate/events"
)

// Term is a terminal.
type Term struct{}

// Runes reads a text as characters (P3).
func Runes(text string) []int {
	var reader chars.Reader
	var list []int
	for i := range len(text) {
		list = reader.Take(list, text[i])
	}
	return reader.End(list)
}

// Width tells the width of a character (P3).
func Width(c int) int { return chars.Width(c) }

// Events reads a text as events (P4).
func Events(text string) []api.Event {
	var machine events.Machine
	var list []api.Event
	for _, c := range Runes(text) {
		if e, ok := machine.Take(c); ok {
			list = append(list, e)
		}
	}
	return list
}

// New makes a terminal afresh (P5).
func New(rows int, cols int) (*Term, api.Errno) { return nil, api.OK }

// Feed takes bytes (P5).
func (t *Term) Feed(text string) {}

// Look tells how it stands (P6).
func (t *Term) Look() api.State { return api.State{} }

// Cell tells a cell (P6).
func (t *Term) Cell(screen int, row int, col int) (api.Cell, api.Errno) { return api.Cell{}, api.OK }

// Saved tells a saved spot (P6).
func (t *Term) Saved(screen int) (api.Spot, api.Errno) { return api.Spot{}, api.OK }

// Tab tells whether there is a tab stop (P6).
func (t *Term) Tab(col int) (bool, api.Errno) { return false, api.OK }

// Dump tells the bytes that draw it again (P8, P9).
func (t *Term) Dump() string { return "" }

// Wall tells the bytes that draw several terminals (P10).
func Wall(rows int, cols int, texts []string) ([]string, api.Errno) { return nil, api.OK }
