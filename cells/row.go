// Package cells: rows of cells, and sheets of rows. Whatever is done to them, a wide character keeps both of its cells or neither.
package cells

import "slate/api"

// Row is a row of cells.
type Row []api.Cell

// NewRow makes a row of blank cells.
func NewRow(cols int) Row {
	r := make(Row, cols)
	r.wipe()
	return r
}

// Clear makes the cells from the column from on, up to but without to, blank. There is at least one of them.
func (r Row) Clear(from, to int) {
	r.split(from)
	r.split(to)
	r[from:to].wipe()
}

// Put writes a character of the width 1 or 2 at a column behind which there is room for it.
func (r Row) Put(at, c, width int, pen api.Pen) {
	r.split(at)
	r.split(at + width)
	r[at] = api.Cell{Rune: c, Pen: pen}
	if width == 2 {
		r[at].Part = api.Head
		r[at+1] = tailOf(r[at])
	}
}

// Insert pushes n blank cells in at a column; what goes past the end is lost.
func (r Row) Insert(at, n int) {
	n = min(n, len(r)-at)
	r.split(at)
	r.split(len(r) - n)
	copy(r[at+n:], r[at:])
	r[at : at+n].wipe()
}

// Remove takes n cells out from a column on; blank ones come at the end.
func (r Row) Remove(at, n int) {
	n = min(n, len(r)-at)
	r.split(at)
	r.split(at + n)
	copy(r[at:], r[at+n:])
	r[len(r)-n:].wipe()
}

// split clears a wide character whose cells stand on both sides of the border ahead of a column.
func (r Row) split(at int) {
	if at <= 0 || at >= len(r) {
		return
	}
	if r[at] == tailOf(r[at-1]) {
		r[at-1], r[at] = Blank(), Blank()
	}
}

// wipe makes all cells blank. It asks for no halves: it is for whole rows, and for what a move left behind, where a tail may stand without its head.
func (r Row) wipe() {
	for i := range r {
		r[i] = Blank()
	}
}

// Blank tells a blank cell.
func Blank() api.Cell { return api.Cell{Rune: ' '} }

func tailOf(head api.Cell) api.Cell {
	return api.Cell{Pen: head.Pen, Part: api.Tail}
}
