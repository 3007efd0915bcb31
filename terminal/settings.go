package terminal

import "slate/api"

func (t *Terminal) adjust(e api.Event) {
	switch e.Final {
	case 'r':
		t.setRegion(times(e.Params[0])-1, amount(e.Params[1])-1)
	case 'g':
		t.clearTabs(amount(e.Params[0]))
	case 'm':
		for _, n := range e.Params[:e.Count] {
			t.state.Pen = turn(t.state.Pen, amount(n))
		}
	case 'h', 'l':
		if e.Params[0] == 4 {
			t.state.Insert = e.Final == 'h'
		}
	}
}

func (t *Terminal) setRegion(top, bottom int) {
	if bottom < 0 || bottom > t.lastRow() {
		bottom = t.lastRow()
	}
	if bottom <= top {
		return
	}
	t.state.Top, t.state.Bottom = top, bottom
	t.home()
}

func (t *Terminal) clearTabs(what int) {
	switch what {
	case 0:
		t.tabs[t.state.Col] = false
	case 3:
		clear(t.tabs)
	}
}

// turn tells what a pen is behind one of the numbers of m.
func turn(pen api.Pen, n int) api.Pen {
	switch {
	case n == 0:
		return api.Pen{}
	case n == 1 || n == 22:
		pen.Bold = n == 1
	case n == 4 || n == 24:
		pen.Under = n == 4
	case n == 7 || n == 27:
		pen.Turned = n == 7
	case 30 <= n && n <= 37:
		pen.Front = n - 29
	case n == 39:
		pen.Front = 0
	case 40 <= n && n <= 47:
		pen.Back = n - 39
	case n == 49:
		pen.Back = 0
	}
	return pen
}

// set turns on or off what is told with the mark ?.
func (t *Terminal) set(numbers []int, on bool) {
	for _, n := range numbers {
		switch n {
		case 6:
			t.state.Origin = on
			t.home()
		case 7:
			t.state.Wrap = on
			t.state.Waits = t.state.Waits && on
		case 47:
			t.state.Shown = 0
			if on {
				t.state.Shown = 1
			}
		}
	}
}
