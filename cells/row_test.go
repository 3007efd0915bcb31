package cells_test

import (
	"slices"
	"testing"

	"slate/api"
	"slate/cells"
)

var (
	space = api.Cell{Rune: ' '}
	bold  = api.Pen{Bold: true}
)

const lost = -1

// layouts: every row of this many columns that is made of single and wide characters, each of the plain or of a bold pen. Each character is another.
func layouts(cols int) []cells.Row {
	if cols == 0 {
		return []cells.Row{nil}
	}
	var list []cells.Row
	for _, pen := range []api.Pen{{}, bold} {
		for _, r := range layouts(cols - 1) {
			list = append(list, slices.Concat(r, cells.Row{{Rune: 'a' + cols, Pen: pen}}))
		}
		if cols == 1 {
			continue
		}
		for _, r := range layouts(cols - 2) {
			list = append(list, slices.Concat(r, cells.Row{{Rune: 0x4E00 + cols, Pen: pen, Part: api.Head}, {Pen: pen, Part: api.Tail}}))
		}
	}
	return list
}

// rearranged: the row in which each cell is where goes says. A wide character whose cells do not go the same way is cleared first.
func rearranged(r cells.Row, goes func(col int) int) cells.Row {
	before, after := slices.Clone(r), slices.Repeat(cells.Row{space}, len(r))
	for i := range len(r) - 1 {
		a, b := goes(i), goes(i+1)
		together := a == lost && b == lost || a != lost && b == a+1
		if r[i].Part == api.Head && !together {
			before[i], before[i+1] = space, space
		}
	}
	for i, c := range before {
		if to := goes(i); to != lost {
			after[to] = c
		}
	}
	return after
}

// everywhere hands every short row, with every column of it, to check.
func everywhere(check func(r cells.Row, at int)) {
	for cols := 1; cols <= 6; cols++ {
		for _, r := range layouts(cols) {
			for at := range cols {
				check(r, at)
			}
		}
	}
}

func compare(t *testing.T, what string, r, got, want cells.Row, at, n int) {
	t.Helper()
	if !slices.Equal(got, want) {
		t.Fatalf("P5: %s at %d, %d, of %v: %v, want %v", what, at, n, r, got, want)
	}
}

func TestNewRow(t *testing.T) {
	for cols := range 41 {
		if r := cells.NewRow(cols); !slices.Equal(r, slices.Repeat(cells.Row{space}, cols)) {
			t.Errorf("P5: a row of %d: %v", cols, r)
		}
	}
}

func TestClear(t *testing.T) {
	everywhere(func(r cells.Row, from int) {
		for to := from + 1; to <= len(r); to++ {
			got := slices.Clone(r)
			got.Clear(from, to)
			want := rearranged(r, func(col int) int {
				if from <= col && col < to {
					return lost
				}
				return col
			})
			compare(t, "Clear", r, got, want, from, to)
		}
	})
}

func TestPut(t *testing.T) {
	everywhere(func(r cells.Row, at int) {
		for width := 1; width <= min(2, len(r)-at); width++ {
			got := slices.Clone(r)
			got.Put(at, 'x', width, bold)
			want := rearranged(r, func(col int) int {
				if at <= col && col < at+width {
					return lost
				}
				return col
			})
			want[at] = api.Cell{Rune: 'x', Pen: bold}
			if width == 2 {
				want[at].Part, want[at+1] = api.Head, api.Cell{Pen: bold, Part: api.Tail}
			}
			compare(t, "Put", r, got, want, at, width)
		}
	})
}

func TestInsert(t *testing.T) {
	everywhere(func(r cells.Row, at int) {
		for _, n := range []int{1, 2, 3, 4, 5, 6, 7, 65535} {
			got := slices.Clone(r)
			got.Insert(at, n)
			want := rearranged(r, func(col int) int {
				switch {
				case col < at:
					return col
				case col+n < len(r):
					return col + n
				}
				return lost
			})
			compare(t, "Insert", r, got, want, at, n)
		}
	})
}

func TestRemove(t *testing.T) {
	everywhere(func(r cells.Row, at int) {
		for _, n := range []int{1, 2, 3, 4, 5, 6, 7, 65535} {
			got := slices.Clone(r)
			got.Remove(at, n)
			want := rearranged(r, func(col int) int {
				switch {
				case col < at:
					return col
				case col >= at+n:
					return col - n
				}
				return lost
			})
			compare(t, "Remove", r, got, want, at, n)
		}
	})
}
