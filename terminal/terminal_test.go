package terminal_test

import (
	"math"
	"testing"

	"slate/api"
	"slate/terminal"
)

func printed(text string) []api.Event {
	var list []api.Event
	for _, c := range text {
		list = append(list, api.Event{Kind: api.Print, Rune: int(c)})
	}
	return list
}

func sequence(mark, final int, numbers ...int) api.Event {
	e := api.Event{Kind: api.Sequence, Mark: mark, Final: final, Count: len(numbers)}
	copy(e.Params[:], numbers)
	return e
}

func taken(rows, cols int, list ...api.Event) *terminal.Terminal {
	t := terminal.New(rows, cols)
	for _, e := range list {
		t.Take(e)
	}
	return t
}

func TestPlaces(t *testing.T) {
	term := terminal.New(3, 5)
	for _, n := range []int{math.MinInt, -1, 0, 1, 2, 3, 4, 5, math.MaxInt} {
		if term.HasScreen(n) != (n == 0 || n == 1) || term.HasRow(n) != (n >= 0 && n < 3) || term.HasCol(n) != (n >= 0 && n < 5) {
			t.Errorf("P6: %d: a screen %v, a row %v, a column %v", n, term.HasScreen(n), term.HasRow(n), term.HasCol(n))
		}
	}
}

func TestTake(t *testing.T) {
	term := taken(2, 3, printed("abcd")...)
	if s := term.State(); s.Row != 1 || s.Col != 1 || s.Waits {
		t.Errorf("P5: the cursor is %+v", s.Spot)
	}
	for col, want := range "abc" {
		if c := term.Cell(0, 0, col); c != (api.Cell{Rune: int(want)}) {
			t.Errorf("P5: the cell %d is %+v", col, c)
		}
	}
	term.Take(api.Event{Kind: api.Escape, Final: '7'})
	if s := term.Saved(0); s != (api.Spot{Row: 1, Col: 1}) {
		t.Errorf("P6: saved is %+v", s)
	}
	term.Take(api.Event{Kind: api.Escape, Final: 'H'})
	term.Take(api.Event{Kind: api.Control, Rune: '\r'})
	if term.Tab(0) || !term.Tab(1) || term.State().Col != 0 {
		t.Error("P6: a tab stop at the cursor's column alone")
	}
}

func TestNumbersThatAreNotThere(t *testing.T) {
	ahead := sequence(0, 'H', 3, 3)
	for _, x := range []struct {
		e        api.Event
		row, col int
	}{
		{sequence(0, 'H'), 0, 0}, {sequence(0, 'H', -1), 0, 0}, {sequence(0, 'H', 2), 1, 0}, {sequence(0, 'H', 2, -1), 1, 0}, {sequence(0, 'H', -1, 2), 0, 1}, {sequence(0, 'A'), 1, 2}, {sequence(0, 'r', 2), 0, 0}, {sequence(0, 'r', -1, -1), 0, 0}, {sequence('?', 'h'), 2, 2}, {sequence('?', 'h', -1), 2, 2},
	} {
		if s := taken(4, 4, ahead, x.e).State(); s.Row != x.row || s.Col != x.col {
			t.Errorf("P5: %+v: the cursor is %+v, want %d, %d", x.e, s.Spot, x.row, x.col)
		}
	}
}

func TestOtherKindsDoNothing(t *testing.T) {
	for _, kind := range []int{math.MinInt, -1, 0, 5, math.MaxInt} {
		term := taken(2, 3, api.Event{Kind: kind, Rune: 'x', Final: 'B', Count: 1})
		if s := term.State(); s != (api.State{Bottom: 1, Wrap: true}) || term.Cell(0, 0, 0) != (api.Cell{Rune: ' '}) {
			t.Errorf("P5: an event of the kind %d does something: %+v", kind, s)
		}
	}
}
