package redraw

import (
	"slate/api"
	"slate/terminal"
)

// toSpot makes the cursor a spot of the screen that is shown; top is the region's, as it stands by then. What the spot has of ORIGIN and alphabets, the cursor does not have yet.
func (w *writer) toSpot(screen int, spot api.Spot, top int) {
	row := spot.Row
	if spot.Origin {
		w.sequence("?6h")
		row -= top
	}
	if spot.Waits {
		w.toWait(screen, spot, row)
	} else {
		w.place(row, spot.Col)
	}
	w.turn(spot.Pen)
	if spot.First == terminal.Lines {
		w.text.WriteString(escape + "(0")
	}
	if spot.Second == terminal.Lines {
		w.text.WriteString(escape + ")0")
	}
	if spot.Use == 1 {
		w.text.WriteString(secondUsed)
	}
}

// toWait puts the character that ends a spot's row there once more, since nothing else makes the cursor wait; row is the spot's as it is counted.
func (w *writer) toWait(screen int, spot api.Spot, row int) {
	col := spot.Col
	if w.from.Cell(screen, spot.Row, col).Part == api.Tail {
		col--
	}
	w.place(row, col)
	w.cell(w.from.Cell(screen, spot.Row, col))
}

// takeBack makes ORIGIN and the alphabets as afresh behind a spot that had them.
func (w *writer) takeBack(spot api.Spot) {
	if spot.Origin {
		w.sequence("?6l")
	}
	if spot.First == terminal.Lines {
		w.text.WriteString(escape + "(B")
	}
	if spot.Second == terminal.Lines {
		w.text.WriteString(escape + ")B")
	}
	if spot.Use == 1 {
		w.text.WriteString(firstUsed)
	}
}
