package terminal

import (
	"slate/api"
	"slate/cells"
)

func (t *Terminal) edit(e api.Event) {
	n, what := times(e.Params[0]), amount(e.Params[0])
	switch e.Final {
	case 'J':
		t.clearRow(what)
		t.clearOtherRows(what)
	case 'K':
		t.clearRow(what)
	case '@':
		t.row().Insert(t.state.Col, n)
	case 'P':
		t.row().Remove(t.state.Col, n)
	case 'X':
		t.row().Clear(t.state.Col, min(t.state.Col+n, len(t.tabs)))
	case 'L':
		if t.isInRegion() {
			t.rowsToBottom().Down(n)
			t.toCol(0)
		}
	case 'M':
		if t.isInRegion() {
			t.rowsToBottom().Up(n)
			t.toCol(0)
		}
	case 'S':
		t.region().Up(n)
	case 'T':
		t.region().Down(n)
	}
}

func (t *Terminal) clearRow(what int) {
	end := len(t.tabs)
	switch what {
	case 0:
		t.row().Clear(t.state.Col, end)
	case 1:
		t.row().Clear(0, t.state.Col+1)
	case 2:
		t.row().Clear(0, end)
	}
}

func (t *Terminal) clearOtherRows(what int) {
	sheet := t.shown().sheet
	switch what {
	case 0:
		sheet[t.state.Row+1:].Clear()
	case 1:
		sheet[:t.state.Row].Clear()
	case 2:
		sheet.Clear()
	}
}

func (t *Terminal) isInRegion() bool {
	return t.state.Top <= t.state.Row && t.state.Row <= t.state.Bottom
}

// rowsToBottom: the rows from the cursor, which is in the region, to the region's bottom.
func (t *Terminal) rowsToBottom() cells.Sheet {
	return t.shown().sheet[t.state.Row : t.state.Bottom+1]
}
