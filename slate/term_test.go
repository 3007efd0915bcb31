package slate_test

import (
	"fmt"
	"math/rand"
	"strings"
	"testing"

	"slate/api"
	"slate/slate"
)

func fed(t *testing.T, rows, cols int, texts ...string) *slate.Term {
	t.Helper()
	term, no := slate.New(rows, cols)
	if term == nil || no != api.OK {
		t.Fatalf("P5: New(%d, %d) = %v, %d", rows, cols, term, no)
	}
	for _, text := range texts {
		term.Feed(text)
	}
	return term
}

// draw: the rows of a screen, with / between them; a TAIL is a >.
func draw(p picture, screen, rows, cols int) string {
	var list []string
	for _, row := range p.cells[screen][:rows] {
		s := ""
		for _, c := range row[:cols] {
			if c.Part == api.Tail {
				s += ">"
			} else {
				s += string(rune(c.Rune))
			}
		}
		list = append(list, s)
	}
	return strings.Join(list, "/")
}

func told(s api.Spot) string {
	if s.Waits {
		return fmt.Sprintf("%d,%d waits", s.Row, s.Col)
	}
	return fmt.Sprintf("%d,%d", s.Row, s.Col)
}

type drawing struct {
	rows, cols       int
	text, want, spot string
}

func check(t *testing.T, list []drawing) {
	t.Helper()
	for _, x := range list {
		p := pictureOf(fed(t, x.rows, x.cols, x.text))
		got := draw(p, p.state.Shown, x.rows, x.cols)
		if got != x.want || told(p.state.Spot) != x.spot {
			t.Errorf("P5: on %d by %d %q draws %q, cursor %s; want %q, cursor %s", x.rows, x.cols, x.text, got, told(p.state.Spot), x.want, x.spot)
		}
	}
}

func TestNewOfEverySize(t *testing.T) {
	for rows := -3; rows <= 20; rows++ {
		for cols := -3; cols <= 50; cols++ {
			term, no := slate.New(rows, cols)
			if rows < 1 || rows > 12 || cols < 1 || cols > 40 {
				if term != nil || no != api.ErrSize {
					t.Errorf("P5: New(%d, %d) = %v, %d", rows, cols, term, no)
				}
				continue
			}
			if term == nil || no != api.OK {
				t.Fatalf("P5: New(%d, %d) = %v, %d", rows, cols, term, no)
			}
			checkAfresh(t, term, rows, cols)
		}
	}
	for _, n := range numbers {
		if n >= 1 && n <= 12 {
			continue
		}
		if term, no := slate.New(n, 5); term != nil || no != api.ErrSize {
			t.Errorf("P5: New(%d, 5) = %v, %d", n, term, no)
		}
	}
}

// checkAfresh asks for each place, and for those right beside them.
func checkAfresh(t *testing.T, term *slate.Term, rows, cols int) {
	t.Helper()
	if got, want := term.Look(), (api.State{Bottom: rows - 1, Wrap: true}); got != want {
		t.Errorf("P5: afresh, %d by %d: %+v, want %+v", rows, cols, got, want)
	}
	for n := -1; n <= 2; n++ {
		want := api.ErrPlace
		if n == 0 || n == 1 {
			want = api.OK
		}
		if s, no := term.Saved(n); s != (api.Spot{}) || no != want {
			t.Errorf("P6: Saved(%d) = %+v, %d", n, s, no)
		}
		for row := -1; row <= rows; row++ {
			for col := -1; col <= cols; col++ {
				checkBlank(t, term, n, row, col, want == api.OK && row >= 0 && row < rows && col >= 0 && col < cols)
			}
		}
	}
	for col := -1; col <= cols; col++ {
		on, no := term.Tab(col)
		if is := col >= 0 && col < cols; on != (is && col > 0 && col%8 == 0) || is && no != api.OK || !is && no != api.ErrPlace {
			t.Errorf("P6: afresh, %d columns: Tab(%d) = %v, %d", cols, col, on, no)
		}
	}
}

func checkBlank(t *testing.T, term *slate.Term, screen, row, col int, is bool) {
	t.Helper()
	want, wantNo := api.Cell{}, api.ErrPlace
	if is {
		want, wantNo = api.Cell{Rune: ' '}, api.OK
	}
	if c, no := term.Cell(screen, row, col); c != want || no != wantNo {
		t.Errorf("P6: Cell(%d, %d, %d) = %+v, %d, want %+v, %d", screen, row, col, c, no, want, wantNo)
	}
}

func TestNoSuchPlace(t *testing.T) {
	term := fed(t, 3, 5, "\x1b[1;31mabcde\x1b7\x1b[?47h\x1b[3;5Hx\x1b7\x1bH")
	for _, n := range numbers {
		_, screenNo := term.Saved(n)
		_, cellNo := term.Cell(n, 2, 4)
		_, rowNo := term.Cell(1, n, 4)
		_, colNo := term.Cell(1, 2, n)
		_, tabNo := term.Tab(n)
		for what, x := range map[string]struct {
			got   api.Errno
			count int
		}{"Saved": {screenNo, 2}, "a screen": {cellNo, 2}, "a row": {rowNo, 3}, "a column": {colNo, 5}, "Tab": {tabNo, 5}} {
			want := api.ErrPlace
			if n >= 0 && n < x.count {
				want = api.OK
			}
			if x.got != want {
				t.Errorf("P6: %s of %d: %d, want %d", what, n, x.got, want)
			}
		}
		checkPlaces(t, term, n, 0)
		checkPlaces(t, term, 0, n)
	}
}

func TestPrint(t *testing.T) {
	check(t, []drawing{
		{2, 3, "", "   /   ", "0,0"},
		{2, 3, "abc", "abc/   ", "0,2 waits"},
		{2, 3, "abcd", "abc/d  ", "1,1"},
		{2, 3, "abcdefg", "def/g  ", "1,1"},
		{2, 3, "\x1b[?7labcd", "abd/   ", "0,2"},
		{2, 3, "\x1b[1;3Hx", "  x/   ", "0,2 waits"},
		{2, 3, "a\u0301\u0085\u200f\u007fb", "ab /   ", "0,2"},
		{2, 3, "abc\u0301\u0085", "abc/   ", "0,2 waits"},
		{1, 1, "a", "a", "0,0 waits"},
		{1, 1, "ab世", "b", "0,0 waits"},
		{1, 1, "\x1b[?7lab世", "b", "0,0"},
		{3, 1, "ab世c", "a/b/c", "2,0 waits"},
		{1, 2, "世", "世>", "0,1 waits"},
		{1, 2, "世界", "界>", "0,1 waits"},
		{2, 3, "世界", "世> /界> ", "1,2"},
		{2, 3, "ab世", "ab /世> ", "1,2"},
		{2, 3, "abc世", "abc/世> ", "1,2"},
		{2, 3, "ab\x1b[3Gx\b\x1b[C世", "abx/世> ", "1,2"},
		{2, 3, "\x1b[2;3Hx\x1b[2;3H世", "  x/世> ", "1,2"},
		{2, 3, "\x1b[?7lab世", "ab /   ", "0,2"},
		{2, 3, "\x1b[?7l世x世", "世>x/   ", "0,2"},
		{2, 3, "\x1b[?7la世", "a世>/   ", "0,2"},
		{2, 3, "a世", "a世>/   ", "0,2 waits"},
		{1, 4, "世界\x1b[1Gx", "x 界>", "0,1"},
		{1, 4, "世界\x1b[2Gx", " x界>", "0,2"},
		{1, 4, "世界\x1b[2G人", " 人> ", "0,3"},
		{1, 4, "世界\x1b[3G人", "世>人>", "0,3 waits"},
		{1, 4, "a世b\x1b[1G人", "人> b", "0,2"},
	})
}

func TestPrintWithInsert(t *testing.T) {
	check(t, []drawing{
		{1, 4, "abc\x1b[4h\x1b[2Gx", "axbc", "0,2"},
		{1, 4, "abcd\x1b[4h\x1b[2Gx", "axbc", "0,2"},
		{1, 4, "abcd\x1b[4h\x1b[2G世", "a世>b", "0,3"},
		{1, 4, "abcd\x1b[4h\x1b[4Gx", "abcx", "0,3 waits"},
		{1, 4, "ab世\x1b[4h\x1b[4Gx", "ab x", "0,3 waits"},
		{1, 4, "ab世\x1b[4h\x1b[1Gx", "xab ", "0,1"},
		{1, 4, "ab世\x1b[4h\x1b[1G界", "界>ab", "0,2"},
		{1, 4, "世ab\x1b[4h\x1b[2Gx", " x a", "0,2"},
		{2, 4, "abcd\x1b[4hx", "abcd/x   ", "1,1"},
		{1, 4, "abcd\x1b[4h\x1b[?7l\x1b[4G世", "abcd", "0,3"},
		{1, 4, "\x1b[4h\x1b[4lab\rc", "cb  ", "0,1"},
		{1, 4, "\x1b[1;4hab\rc", "cb  ", "0,1"},
		{1, 4, "\x1b[?4hab\rc", "cb  ", "0,1"},
		{1, 4, "\x1b[4;1hab\rc", "cab ", "0,1"},
	})
}

func TestAlphabets(t *testing.T) {
	lines := map[rune]rune{'j': '┘', 'k': '┐', 'l': '┌', 'm': '└', 'n': '┼', 'q': '─', 't': '├', 'u': '┤', 'v': '┴', 'w': '┬', 'x': '│'}
	for c := ' '; c <= '~'; c++ {
		for _, x := range []struct {
			ahead string
			first bool
			use   int
		}{
			{"", false, 0}, {"\x1b(0", true, 0}, {"\x1b)0", false, 0}, {"\x1b)0\x0e", true, 1}, {"\x1b(0\x0e", false, 1}, {"\x1b(0\x0e\x0f", true, 0}, {"\x1b(0\x1b(B", false, 0}, {"\x0e\x1b)0\x1b)B", false, 1}, {"\x1b(0\x1b(A\x1b*B\x1b(1", true, 0}, {"\x1b)0\x1b(B\x0e", true, 1},
		} {
			want := c
			if line := lines[c]; line != 0 && x.first {
				want = line
			}
			term := fed(t, 1, 2, x.ahead+string(c))
			if got, _ := term.Cell(0, 0, 0); got != (api.Cell{Rune: int(want)}) {
				t.Errorf("P5: %q is drawn as %c behind %q", c, got.Rune, x.ahead)
			}
			if got := term.Look().Use; got != x.use {
				t.Errorf("P6: behind %q the alphabet %d is in use", x.ahead, got)
			}
		}
	}
	if s := fed(t, 1, 1, "\x1b(0").Look(); s.First != 1 || s.Second != 0 {
		t.Errorf("P6: the alphabets are %d, %d, want 1, 0", s.First, s.Second)
	}
	if s := fed(t, 1, 1, "\x1b)0").Look(); s.First != 0 || s.Second != 1 {
		t.Errorf("P6: the alphabets are %d, %d, want 0, 1", s.First, s.Second)
	}
}

func TestControls(t *testing.T) {
	check(t, []drawing{
		{2, 3, "ab\bc", "ac /   ", "0,2"},
		{2, 3, "\b\b", "   /   ", "0,0"},
		{2, 3, "abc\b", "abc/   ", "0,1"},
		{2, 3, "abc\r", "abc/   ", "0,0"},
		{2, 3, "abc\n", "abc/   ", "1,2"},
		{2, 3, "abc\v", "abc/   ", "1,2"},
		{2, 3, "abc\f", "abc/   ", "1,2"},
		{2, 3, "abc\t", "abc/   ", "0,2"},
		{2, 3, "abc\n\n", "   /   ", "1,2"},
		{1, 3, "abc\n", "   ", "0,2"},
		{1, 20, "\t", "                    ", "0,8"},
		{1, 20, "1234567\t8", "1234567 8           ", "0,9"},
		{1, 20, "12345678\t9", "12345678        9   ", "0,17"},
		{1, 20, "\t\t\t\t", "                    ", "0,19"},
		{1, 9, "\t\t", "         ", "0,8"},
		{1, 8, "\t", "        ", "0,7"},
		{1, 1, "\t", " ", "0,0"},
	})
	for c := range 32 {
		term := fed(t, 1, 3, "abc")
		before := pictureOf(term)
		term.Feed(string(rune(c)))
		after := pictureOf(term)
		if c >= 8 && c <= 15 {
			if after.state.Waits != (c >= 14) {
				t.Errorf("P5: behind control %d Waits is %v", c, after.state.Waits)
			}
		} else if after != before {
			t.Errorf("P5: control %d does something", c)
		}
	}
}

func stops(term *slate.Term, cols int) string {
	var list []string
	for col := range cols {
		if on, _ := term.Tab(col); on {
			list = append(list, fmt.Sprint(col))
		}
	}
	return strings.Join(list, " ")
}

func TestTabStops(t *testing.T) {
	for text, want := range map[string]string{
		"":                           "8 16",
		"\x1bH":                      "0 8 16",
		"\x1b[4G\x1bH":               "3 8 16",
		"\x1b[20G\x1bH\x1bH":         "8 16 19",
		"\x1b[9G\x1b[g":              "16",
		"\x1b[9G\x1b[0g":             "16",
		"\x1b[9G\x1b[0;3g":           "16",
		"\x1b[10G\x1b[g":             "8 16",
		"\x1b[3g":                    "",
		"\x1b[3g\x1b[3G\x1bH":        "2",
		"\x1b[9G\x1b[1g\x1b[2g":      "8 16",
		"\x1b[9G\x1b[?g\x1b[4g":      "8 16",
		"\x1b[9G\x1b[;3g\x1b[65535g": "16",
		"\x1b[3g\x1bc":               "8 16",
		"\x1b[?47h\x1b[3g\x1b[?47l":  "",
	} {
		if got := stops(fed(t, 1, 20, text), 20); got != want {
			t.Errorf("P6: behind %q the stops are %q, want %q", text, got, want)
		}
	}
}

func TestMoves(t *testing.T) {
	at := "\x1b[3;4H"
	for text, want := range map[string]string{
		at: "2,3", "\x1b[3;4f": "2,3", at + "\x1b[H": "0,0", at + "\x1b[f": "0,0", at + "\x1b[;2H": "0,1", at + "\x1b[2H": "1,0", at + "\x1b[0;0H": "0,0", "\x1b[5;6H": "4,5", "\x1b[6;7H": "4,5", "\x1b[65535;65535H": "4,5",
		at + "\x1b[A": "1,3", at + "\x1b[0A": "1,3", at + "\x1b[2A": "0,3", at + "\x1b[3A": "0,3", at + "\x1b[99A": "0,3",
		at + "\x1b[B": "3,3", at + "\x1b[0B": "3,3", at + "\x1b[2B": "4,3", at + "\x1b[3B": "4,3", at + "\x1b[99B": "4,3",
		at + "\x1b[C": "2,4", at + "\x1b[0C": "2,4", at + "\x1b[2C": "2,5", at + "\x1b[3C": "2,5", at + "\x1b[65535C": "2,5",
		at + "\x1b[D": "2,2", at + "\x1b[0D": "2,2", at + "\x1b[3D": "2,0", at + "\x1b[4D": "2,0", at + "\x1b[65535D": "2,0",
		at + "\x1b[G": "2,0", at + "\x1b[0G": "2,0", at + "\x1b[6G": "2,5", at + "\x1b[7G": "2,5",
		at + "\x1b[d": "0,3", at + "\x1b[0d": "0,3", at + "\x1b[5d": "4,3", at + "\x1b[6d": "4,3", at + "\x1b[2;2d": "1,3",
		at + "\x1bD": "3,3", at + "\x1bM": "1,3", at + "\x1bE": "3,0", at + "\x1b[?A\x1b[>B\x1b[=C\x1b[<D": "2,3", at + "\x1b(D\x1b)E\x1b#M": "2,3",
	} {
		if got := told(fed(t, 5, 6, text).Look().Spot); got != want {
			t.Errorf("P5: %q: cursor %s, want %s", text, got, want)
		}
	}
}

func TestMovesWithARegion(t *testing.T) {
	region := "\x1b[2;4r"
	for text, want := range map[string]string{
		"\x1b[3;4H" + region: "0,0", region + "\x1b[6;6H": "5,5", region + "\x1b[6d": "5,0",
		region + "\x1b[3H\x1b[9A": "1,0", region + "\x1b[2H\x1b[9A": "1,0", region + "\x1b[1H\x1b[9A": "0,0", region + "\x1b[6H\x1b[9A": "1,0", region + "\x1b[6H\x1b[A": "4,0",
		region + "\x1b[3H\x1b[9B": "3,0", region + "\x1b[4H\x1b[9B": "3,0", region + "\x1b[5H\x1b[9B": "5,0", region + "\x1b[1H\x1b[9B": "3,0", region + "\x1b[1H\x1b[B": "1,0",
		region + "\x1b[?6h": "1,0", region + "\x1b[?6h\x1b[3;2H": "3,1", region + "\x1b[?6h\x1b[4;2H": "3,1", region + "\x1b[?6h\x1b[65535;2f": "3,1", region + "\x1b[?6h\x1b[2d": "2,0", region + "\x1b[?6h\x1b[9d": "3,0", region + "\x1b[?6h\x1b[9A": "1,0", region + "\x1b[?6h\x1b[9B": "3,0",
		region + "\x1b[?6h\x1b[2;2H\x1b[?6h": "1,0", region + "\x1b[?6h\x1b[2;2H\x1b[?6l": "0,0", "\x1b[?6h\x1b[3;3H\x1b[3;5r": "2,0", "\x1b[2;2H\x1b[?6l": "0,0",
		region + "\x1b[1H\x1bM": "0,0", region + "\x1b[6H\x1bD": "5,0", region + "\x1b[5H\x1bD": "5,0", region + "\x1b[2H\x1bM": "1,0", region + "\x1b[4H\x1bD": "3,0", region + "\x1b[3H\x1bM": "1,0",
	} {
		if got := told(fed(t, 6, 6, text).Look().Spot); got != want {
			t.Errorf("P5: %q: cursor %s, want %s", text, got, want)
		}
	}
}

func TestRegion(t *testing.T) {
	for text, want := range map[string][2]int{
		"": {0, 4}, "\x1b[2;4r": {1, 3}, "\x1b[2;4r\x1b[r": {0, 4}, "\x1b[2r": {1, 4}, "\x1b[2;0r": {1, 4}, "\x1b[2;5r": {1, 4}, "\x1b[2;6r": {1, 4}, "\x1b[2;65535r": {1, 4}, "\x1b[;2r": {0, 1}, "\x1b[0;2r": {0, 1}, "\x1b[4;5r": {3, 4}, "\x1b[4r": {3, 4},
		"\x1b[1;2r\x1b[3;3r": {0, 1}, "\x1b[1;2r\x1b[4;3r": {0, 1}, "\x1b[1;2r\x1b[5r": {0, 1}, "\x1b[1;2r\x1b[6;9r": {0, 1}, "\x1b[1;2r\x1b[65535;65535r": {0, 1}, "\x1b[1;2r\x1b[1;1r": {0, 1}, "\x1b[?2;4r\x1b[>2;4r": {0, 4}, "\x1b[2;4r\x1b[?47h": {1, 3}, "\x1b[2;4r\x1bc": {0, 4},
	} {
		if s := fed(t, 5, 3, text).Look(); s.Top != want[0] || s.Bottom != want[1] {
			t.Errorf("P6: behind %q the region is %d to %d, want %v", text, s.Top, s.Bottom, want)
		}
	}
	for _, text := range []string{"\x1b[3;3r", "\x1b[4;2r", "\x1b[5r", "\x1b[9;9r"} {
		if got := told(fed(t, 5, 3, "\x1b[2;3Hx", text).Look().Spot); got != "1,2 waits" {
			t.Errorf("P5: behind %q, which names no region, the cursor is %s", text, got)
		}
	}
	for _, text := range []string{"\x1b[r", "\x1b[1;1r", "\x1b[1;2r"} {
		if got := told(fed(t, 1, 3, "abc", text).Look().Spot); got != "0,2 waits" {
			t.Errorf("P5: on one row, behind %q, the cursor is %s", text, got)
		}
	}
}

func TestWaiting(t *testing.T) {
	still := []string{"\b", "\t", "\n", "\v", "\f", "\r", "\x1bD", "\x1bM", "\x1bE", "\x1b8", "\x1bc", "\x1b[2;4r", "\x1b[?6h", "\x1b[?6l", "\x1b[?7l", "\x1b[?5;6h", "\x1b[?7l\x1b[?7h", "\x1b[1;2r\x1b[4;4H\x1b[L", "\x1b[1;2r\x1b[4;4H\x1b[M"}
	for _, final := range "ABCDGdHf@PXLM" {
		still = append(still, "\x1b["+string(final), "\x1b[65535"+string(final))
	}
	for _, text := range still {
		if s := fed(t, 5, 4, "\x1b[2Habcd", text).Look(); s.Waits {
			t.Errorf("P5: behind %q the cursor waits", text)
		}
	}
	for _, text := range []string{"", "\a", "\x0e", "\x0f", "\x1b7", "\x1b7\x1b[H\x1b8", "\x1bH", "\x1bz", "\x1b(0", "\x1b)0", "\x1b(D", "\x1b[J", "\x1b[1J", "\x1b[2J", "\x1b[K", "\x1b[1K", "\x1b[2K", "\x1b[S", "\x1b[T", "\x1b[g", "\x1b[3g", "\x1b[m", "\x1b[1m", "\x1b[4h", "\x1b[4l", "\x1b[?7h", "\x1b[?47h", "\x1b[?47l", "\x1b[3;3r", "\x1b[z", "\x1b[?A", "\x1b[>H", "\x1b[", "\xe4\xb8", "\u0301"} {
		if s := fed(t, 5, 4, "\x1b[2Habcd", text).Look(); !s.Waits || s.Row != 1 || s.Col != 3 {
			t.Errorf("P5: behind %q the cursor does not wait: %s", text, told(s.Spot))
		}
	}
	check(t, []drawing{
		{3, 3, "abc\x1b[1;2r\x1b[3;3Hd\x1b[L", "abc/   /  d", "2,2"},
		{3, 3, "abc\x1b[1;2r\x1b[3;3Hd\x1b[Me", "abc/   /  e", "2,2 waits"},
	})
}

func TestScrolling(t *testing.T) {
	rows := "a\r\nb\r\nc\r\nd\r\ne"
	region := rows + "\x1b[2;4r"
	check(t, []drawing{
		{5, 1, rows + "\n", "b/c/d/e/ ", "4,0"},
		{5, 1, rows + "f", "b/c/d/e/f", "4,0 waits"},
		{5, 1, rows + "\x1b[H\x1bM", " /a/b/c/d", "0,0"},
		{5, 1, region + "\x1b[4H\n", "a/c/d/ /e", "3,0"},
		{5, 1, region + "\x1b[4H\x1bE", "a/c/d/ /e", "3,0"},
		{5, 1, region + "\x1b[4Hxy", "a/c/x/y/e", "3,0 waits"},
		{5, 1, region + "\x1b[5H\n", "a/b/c/d/e", "4,0"},
		{5, 1, region + "\x1b[5Hxy", "a/b/c/d/y", "4,0 waits"},
		{5, 1, region + "\x1b[2H\x1bM", "a/ /b/c/e", "1,0"},
		{5, 1, region + "\x1bM", "a/b/c/d/e", "0,0"},
		{5, 1, region + "\x1b[S", "a/c/d/ /e", "0,0"},
		{5, 1, region + "\x1b[0S", "a/c/d/ /e", "0,0"},
		{5, 1, region + "\x1b[3S", "a/ / / /e", "0,0"},
		{5, 1, region + "\x1b[65535S", "a/ / / /e", "0,0"},
		{5, 1, region + "\x1b[T", "a/ /b/c/e", "0,0"},
		{5, 1, region + "\x1b[2T", "a/ / /b/e", "0,0"},
		{5, 1, region + "\x1b[65535T", "a/ / / /e", "0,0"},
		{5, 1, region + "\x1b[2H\x1b[L", "a/ /b/c/e", "1,0"},
		{5, 1, region + "\x1b[4H\x1b[L", "a/b/c/ /e", "3,0"},
		{5, 1, region + "\x1b[3H\x1b[65535L", "a/b/ / /e", "2,0"},
		{5, 1, region + "\x1b[1H\x1b[L", "a/b/c/d/e", "0,0"},
		{5, 1, region + "\x1b[5H\x1b[L", "a/b/c/d/e", "4,0"},
		{5, 1, region + "\x1b[2H\x1b[M", "a/c/d/ /e", "1,0"},
		{5, 1, region + "\x1b[3H\x1b[2M", "a/b/ / /e", "2,0"},
		{5, 1, region + "\x1b[1H\x1b[M", "a/b/c/d/e", "0,0"},
		{5, 1, region + "\x1b[5H\x1b[M", "a/b/c/d/e", "4,0"},
		{2, 3, "\x1b[1;2Ha\x1b[1;3H\x1b[L", "   / a ", "0,0"},
		{2, 3, "\x1b[2;2Ha\x1b[1;3H\x1b[M", " a /   ", "0,0"},
		{3, 3, "\x1b[1;2r\x1b[3;2H\x1b[L\x1b[M", "   /   /   ", "2,1"},
		{2, 4, "世界人\n", "人>  /    ", "1,2"},
		{1, 3, "abc\x1b[S", "   ", "0,2 waits"},
		{1, 3, "abc\x1bM", "   ", "0,2"},
	})
}

func TestRowEdits(t *testing.T) {
	check(t, []drawing{
		{1, 6, "abcdef\x1b[2G\x1b[@", "a bcde", "0,1"},
		{1, 6, "abcdef\x1b[2G\x1b[5@", "a     ", "0,1"},
		{1, 6, "abcdef\x1b[2G\x1b[65535@", "a     ", "0,1"},
		{1, 6, "a世b界\x1b[3G\x1b[@", "a   b ", "0,2"},
		{1, 6, "a世b界\x1b[2G\x1b[2@", "a  世>b", "0,1"},
		{1, 6, "abcdef\x1b[2G\x1b[P", "acdef ", "0,1"},
		{1, 6, "abcdef\x1b[2G\x1b[5P", "a     ", "0,1"},
		{1, 6, "abcdef\x1b[2G\x1b[65535P", "a     ", "0,1"},
		{1, 6, "世界人\x1b[2G\x1b[2P", "  人>  ", "0,1"},
		{1, 6, "世界人\x1b[1G\x1b[2P", "界>人>  ", "0,0"},
		{1, 3, "a世\x1b[1G\x1b[P", "世> ", "0,0"},
		{1, 6, "abcdef\x1b[2G\x1b[X", "a cdef", "0,1"},
		{1, 6, "abcdef\x1b[2G\x1b[5X", "a     ", "0,1"},
		{1, 6, "abcdef\x1b[2G\x1b[65535X", "a     ", "0,1"},
		{1, 6, "世界人\x1b[2G\x1b[2X", "    人>", "0,1"},
		{1, 6, "世界人\x1b[3G\x1b[2X", "世>  人>", "0,2"},
		{1, 6, "世界人\x1b[4G\x1b[X", "世>  人>", "0,3"},
		{1, 6, "世界人\x1b[4G\x1b[K", "世>    ", "0,3"},
		{1, 6, "世界人\x1b[5G\x1b[0K", "世>界>  ", "0,4"},
		{1, 6, "世界人\x1b[3G\x1b[1K", "    人>", "0,2"},
		{1, 6, "世界人\x1b[2G\x1b[1K", "  界>人>", "0,1"},
		{1, 6, "世界人\x1b[2G\x1b[2K", "      ", "0,1"},
		{1, 6, "世界人\x1b[2G\x1b[3K\x1b[?K\x1b[4K", "世>界>人>", "0,1"},
		{1, 6, "abcdef\x1b[1K", "      ", "0,5 waits"},
		{2, 2, "abcd\x1b[H\x1b[@\x1b[2P\x1b[X\x1b[2K", "  /cd", "0,0"},
	})
}

func TestScreenEdits(t *testing.T) {
	check(t, []drawing{
		{3, 2, "abcdef\x1b[2;2H\x1b[J", "ab/c /  ", "1,1"},
		{3, 2, "abcdef\x1b[2;2H\x1b[0J", "ab/c /  ", "1,1"},
		{3, 2, "abcdef\x1b[2;1H\x1b[1J", "  / d/ef", "1,0"},
		{3, 2, "abcdef\x1b[2;1H\x1b[2J", "  /  /  ", "1,0"},
		{3, 2, "abcdef\x1b[2;1H\x1b[3J\x1b[?J\x1b[4J\x1b[65535J", "ab/cd/ef", "1,0"},
		{3, 2, "abcdef\x1b[2r\x1b[?6h\x1b[J", "ab/  /  ", "1,0"},
		{3, 2, "世界人\x1b[2;2H\x1b[J", "世>/  /  ", "1,1"},
		{3, 2, "世界人\x1b[2;1H\x1b[1J", "  /  /人>", "1,0"},
	})
	for _, text := range []string{"\x1b[J", "\x1b[1J", "\x1b[2J", "\x1b[K", "\x1b[2K", "\x1b[X", "\x1b[P", "\x1b[@", "\x1b[S", "\x1b[T", "\x1b[L", "\x1b[M", "\n", "\x1bM"} {
		term := fed(t, 1, 1, "\x1b[1;4;7;31;42mx", text)
		if c, _ := term.Cell(0, 0, 0); c != (api.Cell{Rune: ' '}) {
			t.Errorf("P5: what %q clears is not blank: %+v", text, c)
		}
	}
}

func TestPens(t *testing.T) {
	all := api.Pen{Bold: true, Under: true, Turned: true, Front: 5, Back: 6}
	for n := range 120 {
		for _, before := range []api.Pen{{}, all} {
			want := inked(before, n)
			text := ""
			if before == all {
				text = "\x1b[1;4;7;34;45m"
			}
			if got := fed(t, 1, 2, text+fmt.Sprintf("\x1b[%dm", n)).Look().Pen; got != want {
				t.Errorf("P5: behind %q and %d the pen is %+v, want %+v", text, n, got, want)
			}
		}
	}
	for text, want := range map[string]api.Pen{
		"\x1b[m": {}, "\x1b[;4m": {Under: true}, "\x1b[4;m": {}, "\x1b[22;24;27;39;49m": {}, "\x1b[22m": {Under: true, Turned: true, Front: 5, Back: 6}, "\x1b[65535m": all, "\x1b[?0m\x1b[>m": all, "\x1b[30;40m": {Bold: true, Under: true, Turned: true, Front: 1, Back: 1}, "\x1b[37;47m": {Bold: true, Under: true, Turned: true, Front: 8, Back: 8},
		"\x1b[" + strings.Repeat("5;", 15) + "0m": {}, "\x1b[" + strings.Repeat("5;", 16) + "0m": all,
	} {
		term := fed(t, 1, 2, "\x1b[1;4;7;34;45m", text, "世")
		head, _ := term.Cell(0, 0, 0)
		tail, _ := term.Cell(0, 0, 1)
		if head != (api.Cell{Rune: '世', Pen: want, Part: api.Head}) || tail != (api.Cell{Pen: want, Part: api.Tail}) {
			t.Errorf("P5: behind %q %+v, %+v, want the pen %+v", text, head, tail, want)
		}
	}
}

func TestSavedSpots(t *testing.T) {
	term := fed(t, 4, 4, "\x1b[2;4r\x1b[?6h\x1b[2;1H\x1b[1;31m\x1b(0\x1b)0\x0eabcd\x1b7")
	want := api.Spot{Row: 2, Col: 3, Waits: true, Pen: api.Pen{Bold: true, Front: 2}, First: 1, Second: 1, Use: 1, Origin: true}
	expect := func(what string, first, second, cursor api.Spot) {
		t.Helper()
		p := pictureOf(term)
		if p.saved != [2]api.Spot{first, second} || p.state.Spot != cursor {
			t.Errorf("P5: %s: saved %+v, cursor %+v; want %+v, %+v, cursor %+v", what, p.saved, p.state.Spot, first, second, cursor)
		}
	}
	expect("ESC 7", want, api.Spot{}, want)
	term.Feed("\x1b[?6l\x1b[m\x1b(B\x1b)B\x0f")
	expect("the cursor moves on", want, api.Spot{}, api.Spot{})
	term.Feed("\x1b8")
	expect("ESC 8", want, api.Spot{}, want)
	term.Feed("\x1b[?47h")
	expect("the second screen is shown", want, api.Spot{}, want)
	term.Feed("\x1b8")
	expect("ESC 8 of the second screen", want, api.Spot{}, api.Spot{})
	term.Feed("ab\x1b7\x1b[H")
	expect("ESC 7 of the second screen", want, api.Spot{Col: 2}, api.Spot{})
	term.Feed("\x1b8")
	expect("ESC 8 of the second screen again", want, api.Spot{Col: 2}, api.Spot{Col: 2})
	term.Feed("\x1b[?47l\x1b[?7l\x1b8")
	expect("ESC 8 without WRAP", want, api.Spot{Col: 2}, api.Spot{Row: 2, Col: 3, Pen: want.Pen, First: 1, Second: 1, Use: 1, Origin: true})
	term.Feed("\x1b[?7h\x1b(7\x1b#8")
	expect("with marks", want, api.Spot{Col: 2}, api.Spot{Row: 2, Col: 3, Pen: want.Pen, First: 1, Second: 1, Use: 1, Origin: true})
}

func TestRestoredRowIsInTheRegion(t *testing.T) {
	for text, want := range map[string]string{
		"\x1b[?6h\x1b[6;2H\x1b7\x1b[2;4r\x1b8":            "3,1",
		"\x1b[?6h\x1b[1;2H\x1b7\x1b[2;4r\x1b8":            "1,1",
		"\x1b[?6h\x1b[3;2H\x1b7\x1b[2;4r\x1b8":            "2,1",
		"\x1b[6;2H\x1b7\x1b[2;4r\x1b8":                    "5,1",
		"\x1b[6;2H\x1b7\x1b[2;4r\x1b[?6h\x1b8":            "5,1",
		"\x1b[?6h\x1b[6;2H\x1b7\x1b[?6l\x1b[2;4r\x1b8":    "3,1",
		"\x1b[?6h\x1b[6;9Hx\x1b7\x1b[2;4r\x1b8":           "3,3 waits",
		"\x1b[6;9Hx\x1b7\x1b[?7l\x1b8\x1b[?7h":            "5,3",
		"\x1b[6;9Hx\x1b7\x1b[?7l\x1b8\x1b[?7h\x1b[H\x1b8": "5,3 waits",
	} {
		if got := told(fed(t, 6, 4, text).Look().Spot); got != want {
			t.Errorf("P5: %q: cursor %s, want %s", text, got, want)
		}
	}
}

func TestScreens(t *testing.T) {
	term := fed(t, 2, 3, "ab\x1b[?47hcd\x1b[?47le\x1b[?47;5h")
	p := pictureOf(term)
	if got, want := draw(p, 0, 2, 3)+"|"+draw(p, 1, 2, 3), "ab / e |  c/d  "; got != want || told(p.state.Spot) != "1,2" || p.state.Shown != 1 {
		t.Errorf("P5: the screens are %q, want %q; %+v", got, want, p.state)
	}
	for text, want := range map[string]int{"": 0, "\x1b[?47h": 1, "\x1b[?47h\x1b[?47h": 1, "\x1b[?47h\x1b[?47l": 0, "\x1b[47h": 0, "\x1b[>47h": 0, "\x1b[?1049h\x1b[?48h": 0, "\x1b[?7;47h": 1, "\x1b[?47h\x1bc": 0, "\x1b[?47h\x1b[?47m": 1} {
		if got := fed(t, 2, 3, text).Look().Shown; got != want {
			t.Errorf("P6: behind %q the screen %d is shown, want %d", text, got, want)
		}
	}
	for _, text := range []string{"\x1b[2J", "\x1b[S", "\x1b[T", "\x1b[L", "\x1b[M", "\x1b[@", "\x1b[P", "\x1b[X", "x", "世", "\x1b[4hx", "\n\n", "\x1bM"} {
		term := fed(t, 2, 3, "abcdef\x1b[H\x1b[?47h", text)
		if got := draw(pictureOf(term), 0, 2, 3); got != "abc/def" {
			t.Errorf("P5: %q on the second screen changes the first: %q", text, got)
		}
	}
}

func TestModes(t *testing.T) {
	type modes struct{ wrap, insert, origin bool }
	for text, want := range map[string]modes{
		"": {true, false, false}, "\x1b[?7l": {false, false, false}, "\x1b[?7l\x1b[?7h": {true, false, false}, "\x1b[7l": {true, false, false}, "\x1b[4h": {true, true, false}, "\x1b[4h\x1b[4l": {true, false, false}, "\x1b[?6h": {true, false, true}, "\x1b[?6h\x1b[?6l": {true, false, false}, "\x1b[6h": {true, false, false},
		"\x1b[?6;7;4l": {false, false, false}, "\x1b[?7;6h\x1b[?7l": {false, false, true}, "\x1b[?;h\x1b[?0l\x1b[?h": {true, false, false}, "\x1b[4;7l": {true, false, false}, "\x1b[>7l\x1b[=6h\x1b[<4h": {true, false, false}, "\x1b[?7m\x1b[?6H": {true, false, false},
		"\x1b[?" + strings.Repeat("1;", 15) + "7l": {false, false, false}, "\x1b[?" + strings.Repeat("1;", 16) + "7l": {true, false, false}, "\x1b[?6h\x1b[4h\x1b[?7l\x1bc": {true, false, false},
	} {
		s := fed(t, 2, 3, text).Look()
		if got := (modes{s.Wrap, s.Insert, s.Origin}); got != want {
			t.Errorf("P6: behind %q wrap, insert, origin: %v, want %v", text, got, want)
		}
	}
}

func TestEscapeC(t *testing.T) {
	text := "\x1b[1;31mab世\x1b(0\x1b)0\x0e\x1b7\x1b[?47hx\x1b[2;2H\x1b7\x1b[2;3r\x1b[?6h\x1b[?7l\x1b[4h\x1b[3g\x1bH\x1bc"
	if got, want := pictureOf(fed(t, 3, 20, text)), pictureOf(fed(t, 3, 20)); got != want {
		t.Errorf("P5: behind ESC c: %+v", got.state)
	}
	check(t, []drawing{{3, 4, text + "jk", "jk  /    /    ", "0,2"}})
}

func TestOthersDoNothing(t *testing.T) {
	known := map[string]string{"": "ABCDGdHfJK@PXLMSTrgmhl", "?": "hl"}
	ahead := "\x1b[1mab世cd\x1b7\x1b[?47h\x1b[2;3r\x1b[3;6Hx"
	term := fed(t, 4, 6, ahead)
	before := pictureOf(term)
	for final := '@'; final <= '~'; final++ {
		for _, mark := range []string{"", "?", ">", "=", "<"} {
			if strings.ContainsRune(known[mark], final) {
				continue
			}
			for _, list := range []string{"", "0", "1", "2;3", "4", "6", "7", "47", "65535"} {
				checkNothing(t, term, before, "\x1b["+mark+list+string(final))
			}
		}
	}
	for final := '0'; final <= '~'; final++ {
		for mark := ' '; mark <= '/'; mark++ {
			if mark != '(' && mark != ')' || final != 'B' && final != '0' {
				checkNothing(t, term, before, "\x1b"+string(mark)+string(final)+"\x18")
			}
		}
		if !strings.ContainsRune("78DMEHc", final) {
			checkNothing(t, term, before, "\x1b"+string(final)+"\x18")
		}
	}
	for n := range 70 {
		for _, final := range "hl" {
			if n != 6 && n != 7 && n != 47 {
				checkNothing(t, term, before, fmt.Sprintf("\x1b[?%d%c", n, final))
			}
			if n != 4 {
				checkNothing(t, term, before, fmt.Sprintf("\x1b[%d;4%c", n, final))
			}
		}
		if n > 2 {
			checkNothing(t, term, before, fmt.Sprintf("\x1b[%dJ\x1b[%dK", n, n))
		}
		if n != 0 && n != 3 {
			checkNothing(t, term, before, fmt.Sprintf("\x1b[%d;3g", n))
		}
	}
}

func checkNothing(t *testing.T, term *slate.Term, before picture, text string) {
	t.Helper()
	term.Feed(text)
	if pictureOf(term) != before {
		t.Fatalf("P5: %q does something: %+v", text, term.Look())
	}
}

func TestTextsThatAreSkipped(t *testing.T) {
	check(t, []drawing{
		{1, 5, "a\x1b]0;b\ac", "ac   ", "0,2"},
		{1, 5, "a\x1bPb\x1b\\c", "ac   ", "0,2"},
		{1, 5, "a\x1b_b\nc\u009cd", "ad   ", "0,2"},
		{1, 5, "a\x1b[1:2mb", "ab   ", "0,2"},
		{1, 5, "a\x1b[1\x18b", "ab   ", "0,2"},
		{1, 5, "a\x1b[2\bGb", "ab   ", "0,2"},
		{2, 5, "a\x1b[\n2Gb", "a    / b   ", "1,2"},
	})
}

func TestWhatHoldsBehindEveryText(t *testing.T) {
	r := rand.New(rand.NewSource(7))
	for range 20000 {
		rows, cols := drawSize(r)
		text := drawSteps(r)
		if r.Intn(2) == 0 {
			text += drawText(r)
		}
		p := pictureOf(fed(t, rows, cols, text))
		checkCursor(t, text, p.state, rows, cols)
		for n := range 2 {
			for row := range rows {
				checkRow(t, text, p.cells[n][row][:cols])
			}
		}
	}
}

func checkCursor(t *testing.T, text string, s api.State, rows, cols int) {
	t.Helper()
	if s.Row < 0 || s.Row >= rows || s.Col < 0 || s.Col >= cols {
		t.Fatalf("P7: %q: the cursor is not on the screen: %+v", text, s)
	}
	if s.Waits && (!s.Wrap || s.Col != cols-1) {
		t.Fatalf("P7: %q: the cursor may not wait: %+v", text, s)
	}
	if s.Origin && (s.Row < s.Top || s.Row > s.Bottom) {
		t.Fatalf("P7: %q: the cursor is not within the region: %+v", text, s)
	}
}

func checkRow(t *testing.T, text string, row []api.Cell) {
	t.Helper()
	for i, c := range row {
		behindHead := i > 0 && row[i-1].Part == api.Head
		if (c.Part == api.Tail) != behindHead || c.Part == api.Head && i == len(row)-1 {
			t.Fatalf("P7: %q: HEAD and TAIL are not together: %v", text, row)
		}
		if width := slate.Width(c.Rune); c.Part == api.Head && width != 2 || c.Part == api.One && width != 1 {
			t.Fatalf("P7: %q: a character of another width: %v", text, c)
		}
		if c.Part == api.Tail && c != (api.Cell{Pen: row[i-1].Pen, Part: api.Tail}) {
			t.Fatalf("P7: %q: a TAIL is %v", text, c)
		}
	}
}

func TestFeedGoesOn(t *testing.T) {
	for _, x := range []struct {
		pieces []string
		want   string
	}{
		{[]string{"\xe4"}, "     "},
		{[]string{"\xe4\xb8", ""}, "     "},
		{[]string{"\xe4", "\xb8", "\x96"}, "世>   "},
		{[]string{"\xe4\xb8", "a"}, "\uFFFDa   "},
		{[]string{"\xe4\xb8", "\x1b"}, "\uFFFD    "},
		{[]string{"\xe4\xb8", "\xe4"}, "\uFFFD    "},
		{[]string{"\xe4\xb8", "\xff"}, "\uFFFD\uFFFD   "},
		{[]string{"\xff"}, "\uFFFD    "},
		{[]string{"\xf0\x9f", "\x98\x80"}, "😀>   "},
		{[]string{"\x1b", "[", "3", "", "G", "x"}, "  x  "},
		{[]string{"\x1b[", "1", "2", "Gx"}, "    x"},
		{[]string{"\x1b", "(", "0", "j"}, "┘    "},
		{[]string{"\x1b]a", "b", "\a", "c"}, "c    "},
		{[]string{"\x1b[3", "\x18", "G"}, "G    "},
		{[]string{"ab", "\x1b[", "\xe4\xb8", "\x96", "mc"}, "abc  "},
	} {
		if got := draw(pictureOf(fed(t, 1, 5, x.pieces...)), 0, 1, 5); got != x.want {
			t.Errorf("P5: %q draws %q, want %q", x.pieces, got, x.want)
		}
	}
}

func TestHoweverItIsCut(t *testing.T) {
	r := rand.New(rand.NewSource(11))
	for range 300 {
		rows, cols := drawSize(r)
		text := drawSteps(r)
		want := pictureOf(fed(t, rows, cols, text, "."))
		for at := range len(text) + 1 {
			if pictureOf(fed(t, rows, cols, text[:at], text[at:], ".")) != want {
				t.Fatalf("P11: on %d by %d %q, cut at %d, does something else", rows, cols, text, at)
			}
		}
	}
	for range 5000 {
		rows, cols := drawSize(r)
		text := drawSteps(r) + drawText(r)
		whole, cut := fed(t, rows, cols, text), fed(t, rows, cols)
		for rest := text; rest != ""; {
			n := min(len(rest), r.Intn(3))
			cut.Feed(rest[:n])
			rest = rest[n:]
		}
		if pictureOf(whole) != pictureOf(cut) {
			t.Fatalf("P11: on %d by %d %q in pieces does something else", rows, cols, text)
		}
	}
}

func TestTerminalsStayApart(t *testing.T) {
	want := pictureOf(fed(t, 3, 10, "ab\x1b[1m世"))
	one, other := fed(t, 3, 10, "ab\x1b[1m\xe4"), fed(t, 3, 10)
	other.Feed("\xb8\x1b[3g\x1bH\x1b7xyz\x1b[?47hx\x1b[")
	one.Feed("\xb8")
	other.Feed("\x1bc")
	one.Feed("\x96")
	if pictureOf(one) != want {
		t.Error("P2: what is fed to one terminal is seen in another")
	}
	if pictureOf(one) != want {
		t.Error("P2: to ask a terminal changes it")
	}
	if pictureOf(other) != pictureOf(fed(t, 3, 10)) {
		t.Error("P2: what was fed to one terminal is seen in another")
	}
}

func TestFeedEnds(t *testing.T) {
	for _, size := range [][2]int{{1, 1}, {1, 40}, {12, 1}, {12, 40}} {
		for _, text := range longTexts() {
			term := fed(t, size[0], size[1], text)
			checkCursor(t, text[:min(len(text), 20)], term.Look(), size[0], size[1])
		}
	}
}
