package redraw

import (
	"strconv"
	"strings"

	"slate/api"
	"slate/terminal"
)

const (
	escape     = "\x1b"
	csi        = escape + "["
	saveSpot   = escape + "7"
	setTab     = escape + "H"
	firstUsed  = "\x0f"
	secondUsed = "\x0e"
)

// writer writes for a terminal that is afresh ahead of its bytes. Until the last of them that one wraps and does not insert, so that what is written goes where it is meant to.
type writer struct {
	from *terminal.Terminal
	text strings.Builder
	pen  api.Pen // the one that stands behind what is written so far
}

func (w *writer) place(row, col int) { w.sequence(pair(row, col) + "H") }

// cell writes the character of a cell; that of a TAIL is written with its HEAD.
func (w *writer) cell(c api.Cell) {
	if c.Part == api.Tail {
		return
	}
	w.turn(c.Pen)
	w.text.WriteRune(rune(c.Rune))
}

// turn makes a pen the one that stands.
func (w *writer) turn(pen api.Pen) {
	if pen == w.pen {
		return
	}
	w.pen = pen
	w.sequence("0" + inks(pen) + "m")
}

// inks tells what a pen has, as numbers of the sequence m.
func inks(pen api.Pen) string {
	list := ""
	if pen.Bold {
		list += ";1"
	}
	if pen.Under {
		list += ";4"
	}
	if pen.Turned {
		list += ";7"
	}
	if pen.Front != 0 {
		list += ";3" + strconv.Itoa(pen.Front-1)
	}
	if pen.Back != 0 {
		list += ";4" + strconv.Itoa(pen.Back-1)
	}
	return list
}

func (w *writer) sequence(rest string) {
	w.text.WriteString(csi)
	w.text.WriteString(rest)
}

// pair tells two rows, or a row and a column, as a sequence counts them: from 1.
func pair(a, b int) string { return strconv.Itoa(a+1) + ";" + strconv.Itoa(b+1) }
