package terminal

import "slate/api"

func (t *Terminal) move(e api.Event) {
	n := times(e.Params[0])
	switch e.Final {
	case 'A':
		t.rise(n)
	case 'B':
		t.sink(n)
	case 'C':
		t.toCol(t.state.Col + n)
	case 'D':
		t.toCol(t.state.Col - n)
	case 'G':
		t.toCol(n - 1)
	case 'd':
		t.toCountedRow(n - 1)
	case 'H', 'f':
		t.toCountedRow(n - 1)
		t.toCol(times(e.Params[1]) - 1)
	}
}

// toRow and toCol bring the cursor to the nearest row, or column, that there is.
func (t *Terminal) toRow(row int) { t.state.Row = bring(row, 0, t.lastRow()) }

func (t *Terminal) toCol(col int) { t.state.Col = bring(col, 0, t.lastCol()) }

// toCountedRow goes to a row as it is counted with ORIGIN, or without.
func (t *Terminal) toCountedRow(row int) {
	if t.state.Origin {
		t.state.Row = bring(t.state.Top+row, t.state.Top, t.state.Bottom)
	} else {
		t.toRow(row)
	}
}

// home goes to where rows and columns are counted from.
func (t *Terminal) home() {
	t.toCountedRow(0)
	t.toCol(0)
	t.state.Waits = false
}

// rise goes n rows up; the region's top holds it, unless it is above that already.
func (t *Terminal) rise(n int) {
	bound := 0
	if t.state.Row >= t.state.Top {
		bound = t.state.Top
	}
	t.state.Row = max(t.state.Row-n, bound)
}

// sink goes n rows down; the region's bottom holds it, unless it is below that already.
func (t *Terminal) sink(n int) {
	bound := t.lastRow()
	if t.state.Row <= t.state.Bottom {
		bound = t.state.Bottom
	}
	t.state.Row = min(t.state.Row+n, bound)
}

func (t *Terminal) down() {
	if t.state.Row == t.state.Bottom {
		t.region().Up(1)
	} else {
		t.toRow(t.state.Row + 1)
	}
}

func (t *Terminal) up() {
	if t.state.Row == t.state.Top {
		t.region().Down(1)
	} else {
		t.toRow(t.state.Row - 1)
	}
}

func (t *Terminal) nextLine() {
	t.toCol(0)
	t.down()
}

func (t *Terminal) nextTab() {
	for col := t.state.Col + 1; col < len(t.tabs); col++ {
		if t.tabs[col] {
			t.toCol(col)
			return
		}
	}
	t.toCol(t.lastCol())
}

func (t *Terminal) save() { t.shown().saved = t.state.Spot }

func (t *Terminal) restore() {
	spot := t.shown().saved
	spot.Waits = spot.Waits && t.state.Wrap
	if spot.Origin {
		spot.Row = bring(spot.Row, t.state.Top, t.state.Bottom)
	}
	t.state.Spot = spot
}

// bring tells the number from low to high that is nearest to n.
func bring(n, low, high int) int { return max(low, min(n, high)) }
