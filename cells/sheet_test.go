package cells_test

import (
	"slices"
	"testing"

	"slate/api"
	"slate/cells"
)

// numbered: a sheet of one column whose rows have the characters 1, 2 and so on.
func numbered(rows int) cells.Sheet {
	s := cells.NewSheet(rows, 1)
	for i := range s {
		s[i].Put(0, i+1, 1, api.Pen{})
	}
	return s
}

func column(s cells.Sheet) []int {
	var list []int
	for _, r := range s {
		list = append(list, r[0].Rune)
	}
	return list
}

func TestNewSheet(t *testing.T) {
	s := cells.NewSheet(3, 4)
	s[1].Put(0, 'x', 1, bold)
	if len(s) != 3 || !slices.Equal(s[0], cells.NewRow(4)) || !slices.Equal(s[2], cells.NewRow(4)) {
		t.Errorf("P5: what is put into one row is seen in another: %v", s)
	}
}

func TestScroll(t *testing.T) {
	for rows := 1; rows <= 12; rows++ {
		for _, n := range []int{1, 2, 3, 11, 12, 13, 65535} {
			up, down := numbered(rows), numbered(rows)
			up.Up(n)
			down.Down(n)
			for i := range rows {
				wantUp, wantDown := int(' '), int(' ')
				if i+n < rows {
					wantUp = i + n + 1
				}
				if i >= n {
					wantDown = i - n + 1
				}
				if up[i][0] != (api.Cell{Rune: wantUp}) || down[i][0] != (api.Cell{Rune: wantDown}) {
					t.Errorf("P5: %d rows by %d: up %v, down %v", rows, n, column(up), column(down))
				}
			}
		}
	}
}

func TestScrolledRowsStayApart(t *testing.T) {
	for _, scroll := range []func(cells.Sheet, int){cells.Sheet.Up, cells.Sheet.Down} {
		s := numbered(3)
		scroll(s, 1)
		before := column(s)
		s[1].Put(0, 'x', 1, api.Pen{})
		if got := column(s); got[0] != before[0] || got[2] != before[2] {
			t.Errorf("P5: behind a scroll, what is put into a row is seen in another: %v", got)
		}
	}
}

func TestScrollOfSomeRows(t *testing.T) {
	s := numbered(5)
	s[1:4].Up(1)
	if got := column(s); !slices.Equal(got, []int{1, 3, 4, ' ', 5}) {
		t.Errorf("P5: up: %v", got)
	}
	s[1:4].Down(2)
	if got := column(s); !slices.Equal(got, []int{1, ' ', ' ', 3, 5}) {
		t.Errorf("P5: down: %v", got)
	}
	s[2:].Clear()
	if got := column(s); !slices.Equal(got, []int{1, ' ', ' ', ' ', ' '}) {
		t.Errorf("P5: clear: %v", got)
	}
}
