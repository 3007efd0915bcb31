package slate_test

import (
	"fmt"
	"math/rand"
	"slices"
	"strings"
	"testing"

	"slate/api"
	"slate/slate"
)

// picture: all that can be asked of a terminal, to be held against another by ==.
type picture struct {
	state api.State
	cells [2][api.MaxRows][api.MaxCols]api.Cell
	saved [2]api.Spot
	tabs  [api.MaxCols]bool
}

func pictureOf(term *slate.Term) picture {
	p := picture{state: term.Look()}
	for n := range 2 {
		p.saved[n], _ = term.Saved(n)
		for row := range api.MaxRows {
			for col := range api.MaxCols {
				p.cells[n][row][col], _ = term.Cell(n, row, col)
			}
		}
	}
	for col := range api.MaxCols {
		p.tabs[col], _ = term.Tab(col)
	}
	return p
}

type place struct{ row, col int }

// model: the terminal once more, in the plainest way, to hold the program against: whatever is done to cells is told as where each of them goes.
type model struct {
	picture
	rows, cols int
}

func newModel(rows, cols int) *model {
	m := &model{rows: rows, cols: cols}
	m.state = api.State{Bottom: rows - 1, Wrap: true}
	for n := range 2 {
		for row := range rows {
			for col := range cols {
				m.cells[n][row][col].Rune = ' '
			}
		}
	}
	for col := 8; col < cols; col += 8 {
		m.tabs[col] = true
	}
	return m
}

// rearrange: each cell of the screen that is shown goes where goes says, or is lost; where none goes is blank. A wide character whose cells do not go the same way is cleared first.
func (m *model) rearrange(goes func(p place) (place, bool)) {
	before := m.cells[m.state.Shown]
	after := newModel(m.rows, m.cols).cells[0]
	for row := range m.rows {
		for col := range m.cols {
			if before[row][col].Part != api.Head {
				continue
			}
			a, keptA := goes(place{row, col})
			b, keptB := goes(place{row, col + 1})
			if keptA != keptB || keptA && b != (place{a.row, a.col + 1}) {
				before[row][col], before[row][col+1] = api.Cell{Rune: ' '}, api.Cell{Rune: ' '}
			}
		}
	}
	for row := range m.rows {
		for col := range m.cols {
			if to, kept := goes(place{row, col}); kept {
				after[to.row][to.col] = before[row][col]
			}
		}
	}
	m.cells[m.state.Shown] = after
}

func (m *model) clear(is func(p place) bool) {
	m.rearrange(func(p place) (place, bool) { return p, !is(p) })
}

// scroll: the rows from top to bottom move n up, or down, if n is below 0.
func (m *model) scroll(top, bottom, n int) {
	m.rearrange(func(p place) (place, bool) {
		if p.row < top || p.row > bottom {
			return p, true
		}
		p.row -= n
		return p, top <= p.row && p.row <= bottom
	})
}

// shift: in the cursor's row, what is n or more behind the cursor moves n to the left, and the cells ahead of that are lost; or, if n is below 0, all from the cursor on moves to the right.
func (m *model) shift(n int) {
	at := m.state.Spot
	m.rearrange(func(p place) (place, bool) {
		if p.row != at.Row || p.col < at.Col {
			return p, true
		}
		p.col -= n
		return p, at.Col <= p.col && p.col < m.cols
	})
}

func (m *model) down() {
	if s := &m.state; s.Row == s.Bottom {
		m.scroll(s.Top, s.Bottom, 1)
	} else if s.Row+1 < m.rows {
		s.Row++
	}
}

func (m *model) up() {
	if s := &m.state; s.Row == s.Top {
		m.scroll(s.Top, s.Bottom, -1)
	} else if s.Row > 0 {
		s.Row--
	}
}

func (m *model) home() {
	m.state.Row, m.state.Col, m.state.Waits = 0, 0, false
	if m.state.Origin {
		m.state.Row = m.state.Top
	}
}

func (m *model) take(e api.Event) {
	s := &m.state
	switch e.Kind {
	case api.Print:
		m.print(e.Rune)
	case api.Control:
		m.control(e.Rune)
	case api.Escape:
		switch fmt.Sprintf("%c%c", max(e.Mark, ' '), e.Final) {
		case "(B":
			s.First = 0
		case "(0":
			s.First = 1
		case ")B":
			s.Second = 0
		case ")0":
			s.Second = 1
		}
		if e.Mark == 0 {
			m.escape(e.Final)
		}
	case api.Sequence:
		switch e.Mark {
		case 0:
			m.sequence(e)
		case '?':
			for _, n := range e.Params[:e.Count] {
				m.switchOver(fmt.Sprintf("%d%c", n, e.Final))
			}
		}
	}
}

func (m *model) print(c int) {
	s, w := &m.state, slate.Width(c)
	if w == 0 || w == 2 && m.cols == 1 {
		return
	}
	if i := strings.IndexRune("jklmnqtuvwx", rune(c)); i >= 0 && [2]int{s.First, s.Second}[s.Use] == 1 {
		c = int([]rune("┘┐┌└┼─├┤┴┬│")[i])
	}
	if s.Waits || w == 2 && s.Col == m.cols-1 && s.Wrap {
		s.Waits, s.Col = false, 0
		m.down()
	}
	if w == 2 && s.Col == m.cols-1 {
		return
	}
	if s.Insert {
		m.shift(-w)
	}
	m.clear(func(p place) bool { return p.row == s.Row && s.Col <= p.col && p.col < s.Col+w })
	row := &m.cells[s.Shown][s.Row]
	row[s.Col] = api.Cell{Rune: c, Pen: s.Pen, Part: w - 1}
	if w == 2 {
		row[s.Col+1] = api.Cell{Pen: s.Pen, Part: api.Tail}
	}
	if s.Col += w; s.Col >= m.cols {
		s.Col, s.Waits = m.cols-1, s.Wrap
	}
}

func (m *model) control(c int) {
	s := &m.state
	if c >= 8 && c <= 13 {
		s.Waits = false
	}
	switch c {
	case 8:
		s.Col = max(s.Col-1, 0)
	case 9:
		for s.Col = min(s.Col+1, m.cols-1); s.Col < m.cols-1 && !m.tabs[s.Col]; {
			s.Col++
		}
	case 10, 11, 12:
		m.down()
	case 13:
		s.Col = 0
	case 14, 15:
		s.Use = 15 - c
	}
}

func (m *model) escape(final int) {
	s := &m.state
	switch final {
	case '7':
		m.saved[s.Shown] = s.Spot
	case '8':
		s.Spot = m.saved[s.Shown]
		if !s.Wrap {
			s.Waits = false
		}
		for s.Origin && s.Row < s.Top {
			s.Row++
		}
		for s.Origin && s.Row > s.Bottom {
			s.Row--
		}
	case 'D':
		s.Waits = false
		m.down()
	case 'M':
		s.Waits = false
		m.up()
	case 'E':
		s.Waits, s.Col = false, 0
		m.down()
	case 'H':
		m.tabs[s.Col] = true
	case 'c':
		*m = *newModel(m.rows, m.cols)
	}
}

func (m *model) switchOver(what string) {
	s := &m.state
	switch what {
	case "6h", "6l":
		s.Origin = what == "6h"
		m.home()
	case "7h":
		s.Wrap = true
	case "7l":
		s.Wrap, s.Waits = false, false
	case "47h":
		s.Shown = 1
	case "47l":
		s.Shown = 0
	}
}

func (m *model) sequence(e api.Event) {
	s := &m.state
	n, p1, p2 := max(e.Params[0], 1), max(e.Params[0], 0), max(e.Params[1], 0)
	if strings.ContainsRune("ABCDGdHf@PXLM", rune(e.Final)) {
		s.Waits = false
	}
	switch e.Final {
	case 'A':
		for ; n > 0 && s.Row > 0 && s.Row != s.Top; n-- {
			s.Row--
		}
	case 'B':
		for ; n > 0 && s.Row < m.rows-1 && s.Row != s.Bottom; n-- {
			s.Row++
		}
	case 'C':
		s.Col = min(s.Col+n, m.cols-1)
	case 'D':
		s.Col = max(s.Col-n, 0)
	case 'G':
		s.Col = min(n, m.cols) - 1
	case 'd', 'H', 'f':
		s.Row = min(n, m.rows) - 1
		if s.Origin {
			s.Row = min(s.Top+n-1, s.Bottom)
		}
		if e.Final != 'd' {
			s.Col = min(max(p2, 1), m.cols) - 1
		}
	case 'J', 'K':
		m.erase(p1, e.Final == 'K')
	case '@':
		m.shift(-n)
	case 'P':
		m.shift(n)
	case 'X':
		m.clear(func(p place) bool { return p.row == s.Row && s.Col <= p.col && p.col < s.Col+n })
	case 'L', 'M':
		if s.Row >= s.Top && s.Row <= s.Bottom {
			m.scroll(s.Row, s.Bottom, map[int]int{'L': -n, 'M': n}[e.Final])
			s.Col = 0
		}
	case 'S':
		m.scroll(s.Top, s.Bottom, n)
	case 'T':
		m.scroll(s.Top, s.Bottom, -n)
	default:
		m.adjust(e, n, p1, p2)
	}
}

func (m *model) erase(what int, inRow bool) {
	s := m.state
	m.clear(func(p place) bool {
		behind := p.row > s.Row || p.row == s.Row && p.col >= s.Col
		ahead := p.row < s.Row || p.row == s.Row && p.col <= s.Col
		return (!inRow || p.row == s.Row) && (what == 0 && behind || what == 1 && ahead || what == 2)
	})
}

func (m *model) adjust(e api.Event, n, p1, p2 int) {
	s := &m.state
	switch e.Final {
	case 'r':
		if p2 == 0 || p2 > m.rows {
			p2 = m.rows
		}
		if p2 > n {
			s.Top, s.Bottom = n-1, p2-1
			m.home()
		}
	case 'g':
		switch p1 {
		case 0:
			m.tabs[s.Col] = false
		case 3:
			m.tabs = [api.MaxCols]bool{}
		}
	case 'm':
		for _, p := range e.Params[:e.Count] {
			s.Pen = inked(s.Pen, max(p, 0))
		}
	case 'h', 'l':
		if p1 == 4 {
			s.Insert = e.Final == 'h'
		}
	}
}

func inked(pen api.Pen, n int) api.Pen {
	switch n {
	case 0:
		pen = api.Pen{}
	case 1:
		pen.Bold = true
	case 4:
		pen.Under = true
	case 7:
		pen.Turned = true
	case 22:
		pen.Bold = false
	case 24:
		pen.Under = false
	case 27:
		pen.Turned = false
	}
	if i := slices.Index([]int{39, 30, 31, 32, 33, 34, 35, 36, 37}, n); i >= 0 {
		pen.Front = i
	}
	if i := slices.Index([]int{49, 40, 41, 42, 43, 44, 45, 46, 47}, n); i >= 0 {
		pen.Back = i
	}
	return pen
}

var amounts = []string{"", "", "0", "1", "1", "2", "2", "3", "4", "5", "6", "7", "12", "13", "30", "40", "41", "47", "65535"}

// drawStep: a piece of text that a terminal does something with, or nothing.
func drawStep(r *rand.Rand) string {
	pick := func(list string) string {
		runes := []rune(list)
		return string(runes[r.Intn(len(runes))])
	}
	switch r.Intn(8) {
	case 0, 1:
		return pick("abjqx~é世界😀\u0301\u0085\u200b")
	case 2:
		return pick("\a\b\t\n\v\f\r\x0e\x0f\x00")
	case 3:
		return "\x1b" + pick("78DMEHH787") + pick("ab")
	case 4:
		return "\x1b" + pick("()()*") + pick("B00A")
	case 5:
		return "\x1b[?" + pick("6747") + pick("hl")
	case 6:
		return []string{"\x1b[?47h", "\x1b[?47l", "\x1b[4h", "\x1b[4l", "\x1b[2;3r", "\x1b[r", "\x1b[2;4r", "\x1b[?6;7h", "\x1b[?47;7l", "\x1bc", "\xe4\xb8", "\xff"}[r.Intn(12)]
	}
	list := []string{amounts[r.Intn(len(amounts))]}
	for range r.Intn(3) {
		list = append(list, amounts[r.Intn(len(amounts))])
	}
	return "\x1b[" + strings.Join(list, ";") + pick("ABCDGdHfJK@PXLMSTrgmhlzABCDGdHfJK@PXLMSTm")
}

func drawSteps(r *rand.Rand) string {
	var b strings.Builder
	for range r.Intn(40) {
		b.WriteString(drawStep(r))
	}
	return b.String()
}

func drawSize(r *rand.Rand) (int, int) {
	if r.Intn(10) == 0 {
		return 1 + r.Intn(api.MaxRows), 1 + r.Intn(api.MaxCols)
	}
	return 1 + r.Intn(5), 1 + r.Intn(7)
}

func TestTerminalIsAsTheModel(t *testing.T) {
	r := rand.New(rand.NewSource(5))
	for range 20000 {
		rows, cols := drawSize(r)
		text := drawSteps(r) + "." // a character that is begun would be an event with the end of the text
		m := newModel(rows, cols)
		for _, e := range slate.Events(text) {
			m.take(e)
		}
		term := fed(t, rows, cols, text)
		if got := pictureOf(term); got != m.picture {
			t.Fatalf("P5: on %d by %d %q: %v and %q, want %v and %q", rows, cols, text, got.state, draw(got, got.state.Shown, rows, cols), m.state, draw(m.picture, m.state.Shown, rows, cols))
		}
	}
}
