// Package redraw: the bytes that draw a terminal again.
package redraw

import (
	"strconv"

	"slate/api"
	"slate/cells"
	"slate/terminal"
)

// Bytes tells the bytes that make a terminal afresh, of the same size, what this one is.
func Bytes(t *terminal.Terminal) string {
	w := writer{from: t}
	w.screens()
	w.tabs()
	w.region()
	w.cursor()
	w.settings()
	return w.text.String()
}

func (w *writer) screens() {
	w.screen(0)
	isShown := w.from.State().Shown == 1
	if !isShown && w.isAfresh(1) {
		return
	}
	w.sequence("?47h")
	w.screen(1)
	if !isShown {
		w.sequence("?47l")
	}
}

func (w *writer) isAfresh(screen int) bool {
	rows, cols := w.from.Size()
	for row := range rows {
		for col := range cols {
			if w.from.Cell(screen, row, col) != cells.Blank() {
				return false
			}
		}
	}
	return w.from.Saved(screen) == api.Spot{}
}

func (w *writer) screen(n int) {
	rows, _ := w.from.Size()
	for row := range rows {
		w.runs(n, row)
	}
	w.saved(n)
}

// runs writes the runs of a row's cells that are not blank.
func (w *writer) runs(screen, row int) {
	_, cols := w.from.Size()
	before := cells.Blank()
	for col := range cols {
		cell := w.from.Cell(screen, row, col)
		if cell != cells.Blank() {
			if before == cells.Blank() {
				w.place(row, col)
			}
			w.cell(cell)
		}
		before = cell
	}
}

func (w *writer) saved(screen int) {
	spot := w.from.Saved(screen)
	if spot == (api.Spot{}) {
		return
	}
	w.toSpot(screen, spot, 0)
	w.text.WriteString(saveSpot)
	w.takeBack(spot)
}

func (w *writer) tabs() {
	_, cols := w.from.Size()
	if w.tabsAreAfresh(cols) {
		return
	}
	w.sequence("3g")
	for col := range cols {
		if w.from.Tab(col) {
			w.sequence(strconv.Itoa(col+1) + "G")
			w.text.WriteString(setTab)
		}
	}
}

func (w *writer) tabsAreAfresh(cols int) bool {
	for col := range cols {
		if w.from.Tab(col) != terminal.IsTabAfresh(col) {
			return false
		}
	}
	return true
}

func (w *writer) region() {
	state := w.from.State()
	rows, _ := w.from.Size()
	if state.Top != 0 || state.Bottom != rows-1 {
		w.sequence(pair(state.Top, state.Bottom) + "r")
	}
}

func (w *writer) cursor() {
	state := w.from.State()
	if state.Spot == (api.Spot{}) && w.text.Len() == 0 {
		return
	}
	w.toSpot(state.Shown, state.Spot, state.Top)
}

func (w *writer) settings() {
	state := w.from.State()
	if state.Insert {
		w.sequence("4h")
	}
	if !state.Wrap {
		w.sequence("?7l")
	}
}
