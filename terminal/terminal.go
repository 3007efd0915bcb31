// Package terminal: what a terminal keeps, and what events do to it.
package terminal

import (
	"slate/api"
	"slate/cells"
)

// The alphabets.
const (
	Letters = 0
	Lines   = 1
)

const tabEvery = 8

// Terminal is a terminal's two screens, its cursor and its settings.
type Terminal struct {
	screens [2]screen
	state   api.State
	tabs    []bool // for each column, whether there is a stop
}

type screen struct {
	sheet cells.Sheet
	saved api.Spot
}

// New makes a terminal afresh, of at least one row and one column.
func New(rows, cols int) *Terminal {
	t := &Terminal{
		state: api.State{Bottom: rows - 1, Wrap: true},
		tabs:  make([]bool, cols),
	}
	for i := range t.screens {
		t.screens[i].sheet = cells.NewSheet(rows, cols)
	}
	for col := range t.tabs {
		t.tabs[col] = IsTabAfresh(col)
	}
	return t
}

// IsTabAfresh tells whether a terminal afresh has a stop at a column.
func IsTabAfresh(col int) bool { return col > 0 && col%tabEvery == 0 }

// Size tells how many rows and columns there are.
func (t *Terminal) Size() (rows, cols int) { return t.lastRow() + 1, t.lastCol() + 1 }

// State tells the cursor, the region, the settings and the screen that is shown.
func (t *Terminal) State() api.State { return t.state }

// HasScreen tells whether there is a screen of this number.
func (t *Terminal) HasScreen(n int) bool { return 0 <= n && n < len(t.screens) }

// HasRow tells whether there is a row of this number.
func (t *Terminal) HasRow(row int) bool { return 0 <= row && row <= t.lastRow() }

// HasCol tells whether there is a column of this number.
func (t *Terminal) HasCol(col int) bool { return 0 <= col && col <= t.lastCol() }

// Cell tells a cell that is there.
func (t *Terminal) Cell(screen, row, col int) api.Cell { return t.screens[screen].sheet[row][col] }

// Saved tells the saved spot of a screen that is there.
func (t *Terminal) Saved(screen int) api.Spot { return t.screens[screen].saved }

// Tab tells whether there is a stop at a column that is there.
func (t *Terminal) Tab(col int) bool { return t.tabs[col] }

// Take does what an event asks for.
func (t *Terminal) Take(e api.Event) {
	switch e.Kind {
	case api.Print:
		t.print(e.Rune)
	case api.Control:
		t.control(e.Rune)
	case api.Escape:
		t.escape(e)
	case api.Sequence:
		t.sequence(e)
	}
}

func (t *Terminal) shown() *screen { return &t.screens[t.state.Shown] }

func (t *Terminal) row() cells.Row { return t.shown().sheet[t.state.Row] }

func (t *Terminal) region() cells.Sheet {
	return t.shown().sheet[t.state.Top : t.state.Bottom+1]
}

func (t *Terminal) lastRow() int { return len(t.screens[0].sheet) - 1 }

func (t *Terminal) lastCol() int { return len(t.tabs) - 1 }
