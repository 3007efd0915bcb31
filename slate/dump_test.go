package slate_test

import (
	"fmt"
	"math/rand"
	"slices"
	"strings"
	"testing"

	"slate/api"
	"slate/slate"
)

// checkDrawn: the bytes make a terminal afresh what p is, and nothing is begun behind them.
func checkDrawn(t *testing.T, rows, cols int, text, dump string, p picture) {
	t.Helper()
	if got := pictureOf(fed(t, rows, cols, dump)); got != p {
		t.Fatalf("P8: on %d by %d behind %q: %q draws %v and %q, want %v and %q", rows, cols, text, dump, got.state, draw(got, got.state.Shown, rows, cols), p.state, draw(p, p.state.Shown, rows, cols))
	}
	ahead := slate.Events(dump)
	if got := slate.Events(dump + "x"); !slices.Equal(got, append(slices.Clone(ahead), api.Event{Kind: api.Print, Rune: 'x'})) {
		t.Fatalf("P8: behind %q: a sequence is begun behind %q", text, dump)
	}
	if got := slate.Events(dump + "\x80"); !slices.Equal(got, append(ahead, api.Event{Kind: api.Print, Rune: 0xFFFD})) {
		t.Fatalf("P8: behind %q: a character is begun behind %q", text, dump)
	}
}

type dumped struct {
	rows, cols int
	text, want string
}

// checkDumps: in what is wanted, ^ is ESC.
func checkDumps(t *testing.T, list []dumped) {
	t.Helper()
	for _, x := range list {
		text, want := strings.ReplaceAll(x.text, "^", "\x1b"), strings.ReplaceAll(x.want, "^", "\x1b")
		term := fed(t, x.rows, x.cols, text)
		got := term.Dump()
		if got != want {
			t.Errorf("P9: on %d by %d behind %q: %q, want %q", x.rows, x.cols, text, got, want)
			continue
		}
		checkDrawn(t, x.rows, x.cols, text, got, pictureOf(term))
	}
}

func TestDumpOfATerminalAfresh(t *testing.T) {
	for rows := 1; rows <= api.MaxRows; rows++ {
		for cols := 1; cols <= api.MaxCols; cols++ {
			for _, text := range []string{"", "\xe4\xb8", "\x1b", "\x1b(", "\x1b[", "\x1b[?7", "\x1b[1;2:", "\x1b]abc", "x\x1bc"} {
				if got := fed(t, rows, cols, text).Dump(); got != "" {
					t.Errorf("P9: on %d by %d, afresh behind %q: %q", rows, cols, text, got)
				}
			}
		}
	}
}

func TestDumpOfCells(t *testing.T) {
	checkDumps(t, []dumped{
		{2, 3, "ab^[1mc", "^[1;1Hab^[0;1mc^[1;3Hc"},
		{2, 3, "a^[H^[J", ""},
		{1, 1, "a^[H", "^[1;1Ha^[1;1H"},
		{1, 8, " a b  cd", "^[1;2Ha^[1;4Hb^[1;7Hcd^[1;8Hd"},
		{1, 8, "ab^[4Gc^[H", "^[1;1Hab^[1;4Hc^[1;1H"},
		{2, 2, "abcd", "^[1;1Hab^[2;1Hcd^[2;2Hd"},
		{3, 2, "a^[3;2Hb^[2;1H", "^[1;1Ha^[3;2Hb^[2;1H"},
		{12, 40, "^[12;40Hx", "^[12;40Hx^[12;40Hx"},
		{1, 5, "世a界", "^[1;1H世a界^[1;4H界"},
		{1, 6, "世^[5G界^[H", "^[1;1H世^[1;5H界^[1;1H"},
		{1, 4, "aé😀", "^[1;1Haé😀^[1;3H😀"},
		{1, 4, "\xff\xe4\xb8a", "^[1;1H\uFFFD\uFFFDa^[1;4H"},
		{1, 4, "a\xe4\xb8", "^[1;1Ha^[1;2H"},
		{1, 4, "a^[3", "^[1;1Ha^[1;2H"},
		{1, 4, "a^]b", "^[1;1Ha^[1;2H"},
		{1, 3, "\u00a0\u3000", "^[1;1H\u00a0\u3000^[1;2H\u3000"}, // spaces, but not the one that is blank
	})
}

func TestDumpOfPens(t *testing.T) {
	checkDumps(t, []dumped{
		{1, 4, "^[1m", "^[1;1H^[0;1m"},
		{1, 4, "^[1m^[22m", ""},
		{1, 4, "^[31ma^[mb", "^[1;1H^[0;31ma^[0mb^[1;3H"},
		{1, 4, "^[31ma^[32mb^[32mc", "^[1;1H^[0;31ma^[0;32mbc^[1;4H"},
		{1, 4, "^[4m ^[m ^[44m  ", "^[1;1H^[0;4m ^[1;3H^[0;44m  ^[1;4H "},
		{1, 4, "^[7m  ^[m^[H", "^[1;1H^[0;7m  ^[1;1H^[0m"},
		{1, 4, "^[47;1;7;4;37ma", "^[1;1H^[0;1;4;7;37;47ma^[1;2H"},
		{1, 4, "^[30;40ma^[39m", "^[1;1H^[0;30;40ma^[1;2H^[0;40m"},
		{1, 4, "^[1m世^[mb", "^[1;1H^[0;1m世^[0mb^[1;4H"},
		{2, 4, "^[1ma^[2Hb", "^[1;1H^[0;1ma^[2;1Hb^[2;2H"},
		{2, 4, "^[1ma^[2H^[mb", "^[1;1H^[0;1ma^[2;1H^[0mb^[2;2H"},
		{2, 4, "^[1ma^[?47h^[2Hb", "^[1;1H^[0;1ma^[?47h^[2;1Hb^[2;2H"},
		{2, 4, "^[1m^7^[?47h^[2Hb^[m", "^[1;1H^[0;1m^7^[?47h^[2;1Hb^[2;2H^[0m"},
	})
}

func TestDumpOfEveryPen(t *testing.T) {
	yes := []bool{false, true}
	for i := range 8 * 9 * 9 {
		pen := api.Pen{Bold: yes[i%2], Under: yes[i/2%2], Turned: yes[i/4%2], Front: i / 8 % 9, Back: i / 72}
		text := inksOf(pen) + "x\x1b[m"
		term := fed(t, 1, 3, text)
		want := "\x1b[1;1H" + inksOf(pen) + "x\x1b[1;2H\x1b[0m"
		if pen == (api.Pen{}) {
			want = "\x1b[1;1Hx\x1b[1;2H"
		}
		if got := term.Dump(); got != want {
			t.Errorf("P9: behind %q: %q, want %q", text, got, want)
		}
		checkDrawn(t, 1, 3, text, want, pictureOf(term))
	}
}

func TestDumpOfCursors(t *testing.T) {
	checkDumps(t, []dumped{
		{2, 3, "^[2;3H", "^[2;3H"},
		{2, 3, "^[2H", "^[2;1H"},
		{1, 1, " ", "^[1;1H "},
		{1, 1, "a", "^[1;1Ha^[1;1Ha"},
		{1, 2, "ab^[2K", "^[1;2H "},
		{1, 2, "^[1mab^[2K", "^[1;2H ^[0;1m"},
		{1, 2, "^[1mab^[7m", "^[1;1H^[0;1mab^[1;2Hb^[0;1;7m"},
		{1, 2, "世", "^[1;1H世^[1;1H世"},
		{1, 3, "a^[31m世^[m", "^[1;1Ha^[0;31m世^[1;2H世^[0m"},
		{1, 3, "^[31ma世^[2Gx^[3Gy", "^[1;1H^[0;31maxy^[1;3Hy"},
		{1, 2, "ab^[?7l", "^[1;1Hab^[1;2H^[?7l"},
		{1, 2, "^[?7l", "^[?7l"},
		{1, 2, "^[4h", "^[4h"},
		{1, 2, "^[4hab^[?7l", "^[1;1Hab^[1;2H^[4h^[?7l"},
		{1, 2, "ab^[4h", "^[1;1Hab^[1;2Hb^[4h"},
		{1, 2, "^(0", "^[1;1H^(0"},
		{1, 2, "^)0", "^[1;1H^)0"},
		{1, 2, "\x0e", "^[1;1H\x0e"},
		{1, 2, "^[1m^)0\x0e^(0", "^[1;1H^[0;1m^(0^)0\x0e"},
		{1, 2, "^(0q\x0eq", "^[1;1H─q^[1;2Hq^(0\x0e"},
		{1, 2, "qq^(0", "^[1;1Hqq^[1;2Hq^(0"},
		{1, 2, "^(0^)0\x0e^(B^)B\x0f", ""},
	})
}

func TestDumpOfSavedSpots(t *testing.T) {
	checkDumps(t, []dumped{
		{2, 3, "^7", ""},
		{2, 3, "^[2;2H^7", "^[2;2H^7^[2;2H"},
		{2, 3, "^[2;2H^7^[H", "^[2;2H^7^[1;1H"},
		{2, 3, "^[1m^7^[m", "^[1;1H^[0;1m^7^[1;1H^[0m"},
		{2, 3, "^(0^7^(B", "^[1;1H^(0^7^(B^[1;1H"},
		{2, 3, "^)0^7^)B", "^[1;1H^)0^7^)B^[1;1H"},
		{2, 3, "\x0e^7\x0f", "^[1;1H\x0e^7\x0f^[1;1H"},
		{2, 3, "^[?6h^7^[?6l", "^[?6h^[1;1H^7^[?6l^[1;1H"},
		{2, 3, "^[?6h^(0^)0\x0e^[4m^[2;2H^7", "^[?6h^[2;2H^[0;4m^(0^)0\x0e^7^[?6l^(B^)B\x0f^[?6h^[2;2H^(0^)0\x0e"},
		{2, 3, "^(0qqq^7", "^[1;1H───^[1;3H─^(0^7^(B^[1;3H─^(0"},
		{2, 3, "abc^7^[H", "^[1;1Habc^[1;3Hc^7^[1;1H"},
		{2, 3, "abc^7^[2K^[H", "^[1;3H ^7^[1;1H"},
		{2, 3, "abc^7^[2G^[1m世^[m^[H", "^[1;1Ha^[0;1m世^[1;2H世^[0m^7^[1;1H"},
		{2, 3, "^[1mabc^7^[m^[2Hx^[?7l", "^[1;1H^[0;1mabc^[2;1H^[0mx^[1;3H^[0;1mc^7^[2;2H^[0m^[?7l"},
		{4, 3, "^[2;3r^[?6h^[2;2H^7", "^[?6h^[3;2H^7^[?6l^[2;3r^[?6h^[2;2H"},
		{4, 3, "^[2;3r^[?6h^[2;1Hxyz^7^[r^[?6l", "^[3;1Hxyz^[?6h^[3;3Hz^7^[?6l^[1;1H"},
		{4, 3, "^[4;1Hxyz^7^[1;2r^[?6h", "^[4;1Hxyz^[4;3Hz^7^[1;2r^[?6h^[1;1H"},
	})
}

func TestDumpOfTheSecondScreen(t *testing.T) {
	checkDumps(t, []dumped{
		{2, 3, "^[?47h", "^[?47h^[1;1H"},
		{2, 3, "^[?47h^[?47l", ""},
		{2, 3, "^[?47hx^[2J^[?47l^[H", ""},
		{2, 3, "^[?47hx^[?47l", "^[?47h^[1;1Hx^[?47l^[1;2H"},
		{2, 3, "^[?47h^[7m ^[m^[?47l^[H", "^[?47h^[1;1H^[0;7m ^[?47l^[1;1H^[0m"},
		{2, 3, "a^[?47hx", "^[1;1Ha^[?47h^[1;2Hx^[1;3H"},
		{2, 3, "a^[?47h^[2J", "^[1;1Ha^[?47h^[1;2H"},
		{2, 3, "^[2;3H^[?47h^7^[?47l^[H", "^[?47h^[2;3H^7^[?47l^[1;1H"},
		{2, 3, "abc^7^[?47h^[H^[1m界x^7", "^[1;1Habc^[1;3Hc^7^[?47h^[1;1H^[0;1m界x^[1;3Hx^7^[1;3Hx"},
		{2, 3, "^[?47h^(0^)0\x0e^[?6hk^7^[?47l", "^[?47h^[1;1H┐^[?6h^[1;2H^(0^)0\x0e^7^[?6l^(B^)B\x0f^[?47l^[?6h^[1;2H^(0^)0\x0e"},
		{2, 3, "ab世^[?47h", "^[1;1Hab^[2;1H世^[?47h^[2;3H"},
		{2, 3, "abc^[?47h", "^[1;1Habc^[?47h^[1;3H "}, // the cell of the screen that is shown
		{2, 3, "^[?47habc^[?47l", "^[?47h^[1;1Habc^[?47l^[1;3H "},
		{2, 3, "^[?47ha世^7^[?47l^[H^7", "^[?47h^[1;1Ha世^[1;2H世^7^[?47l^[1;1H"},
	})
}

func TestDumpOfTabsAndRegion(t *testing.T) {
	checkDumps(t, []dumped{
		{1, 8, "^[3g", ""},
		{1, 9, "^[3g", "^[3g^[1;1H"},
		{1, 8, "^H", "^[3g^[1G^H^[1;1H"},
		{1, 20, "^[9G^[g\r", "^[3g^[17G^H^[1;1H"},
		{1, 20, "^[20G^H", "^[3g^[9G^H^[17G^H^[20G^H^[1;20H"},
		{1, 20, "^[3g^[9G^H^[17G^H\r", ""},
		{1, 20, "^[9G^H\r", ""},
		{4, 3, "^[2;3r", "^[2;3r^[1;1H"},
		{4, 3, "^[1;3r", "^[1;3r^[1;1H"},
		{4, 3, "^[2r", "^[2;4r^[1;1H"},
		{4, 3, "^[2;3r^[r", ""},
		{1, 3, "^[1;1r", ""},
		{4, 3, "^[?6h", "^[?6h^[1;1H"},
		{4, 3, "^[2;3r^[?6h", "^[2;3r^[?6h^[1;1H"},
		{4, 3, "^[2;3r^[?6h^[2;2H", "^[2;3r^[?6h^[2;2H"},
		{4, 3, "^[2;3r^[4;2H", "^[2;3r^[4;2H"},
		{4, 2, "^[2;4r^[?6h^[2;1Hab", "^[3;1Hab^[2;4r^[?6h^[2;2Hb"},
		{4, 2, "^[2;4r^[?6h^[3;1H世", "^[4;1H世^[2;4r^[?6h^[3;1H世"},
		{3, 10, "^[2;3r^[?6h^[3g^[2G^H^[4h^[?7l", "^[3g^[2G^H^[2;3r^[?6h^[1;2H^[4h^[?7l"},
	})
}

func TestDumpOfEverythingAtOnce(t *testing.T) {
	checkDumps(t, []dumped{{
		3, 10,
		"ab^[1m^7^[?47h^[2;9H世^(0^[m^7^[3g^[4G^H^[2;3r^[?6h^)0\x0e^[32mqx^[4h^[?7l",
		"^[1;1Hab^[1;3H^[0;1m^7" +
			"^[?47h^[2;1H^[0;32m─│^[2;9H^[0;1m世^[2;9H世^[0m^(0^7^(B" +
			"^[3g^[4G^H" +
			"^[2;3r" +
			"^[?6h^[1;3H^[0;32m^(0^)0\x0e" +
			"^[4h^[?7l",
	}})
}

// inksOf: the sequence that makes a pen of any other.
func inksOf(p api.Pen) string {
	list := []string{"0"}
	for ink, has := range []bool{1: p.Bold, 4: p.Under, 7: p.Turned} {
		if has {
			list = append(list, fmt.Sprint(ink))
		}
	}
	if p.Front > 0 {
		list = append(list, fmt.Sprint(29+p.Front))
	}
	if p.Back > 0 {
		list = append(list, fmt.Sprint(39+p.Back))
	}
	return "\x1b[" + strings.Join(list, ";") + "m"
}

// script: the bytes of P9 once more, told from a picture alone.
type script struct {
	picture
	rows, cols int
	text       string
	pen        api.Pen
}

func (s *script) put(c api.Cell) {
	s.ink(c.Pen)
	s.text += string(rune(c.Rune))
}

func (s *script) ink(p api.Pen) {
	if p != s.pen {
		s.text += inksOf(p)
	}
	s.pen = p
}

func (s *script) add(is bool, form string, list ...any) {
	if is {
		s.text += "\x1b" + fmt.Sprintf(form, list...)
	}
}

func (s *script) screen(n int) {
	blank := api.Cell{Rune: ' '}
	for i, row := range s.cells[n][:s.rows] {
		for k, c := range row[:s.cols] {
			begins := k == 0 || row[k-1] == blank
			s.add(c != blank && begins, "[%d;%dH", i+1, k+1)
			if c != blank && c.Part != api.Tail {
				s.put(c)
			}
		}
	}
	if spot := s.saved[n]; spot != (api.Spot{}) {
		s.toSpot(n, spot, 0)
		s.add(true, "7")
		s.add(spot.Origin, "[?6l")
		s.add(spot.First == 1, "(B")
		s.add(spot.Second == 1, ")B")
		if spot.Use == 1 {
			s.text += "\x0f"
		}
	}
}

func (s *script) toSpot(screen int, spot api.Spot, top int) {
	s.add(spot.Origin, "[?6h")
	row, line := spot.Row+1, s.cells[screen][spot.Row][:s.cols]
	if spot.Origin {
		row -= top
	}
	last := s.cols - 1
	switch {
	case !spot.Waits:
		s.add(true, "[%d;%dH", row, spot.Col+1)
	case line[last].Part == api.Tail:
		s.add(true, "[%d;%dH", row, last)
		s.put(line[last-1])
	default:
		s.add(true, "[%d;%dH", row, last+1)
		s.put(line[last])
	}
	s.ink(spot.Pen)
	s.add(spot.First == 1, "(0")
	s.add(spot.Second == 1, ")0")
	if spot.Use == 1 {
		s.text += "\x0e"
	}
}

func scriptOf(p picture, rows, cols int) string {
	s, fresh := script{picture: p, rows: rows, cols: cols}, newModel(rows, cols)
	s.screen(0)
	if p.state.Shown == 1 || p.cells[1] != fresh.cells[1] || p.saved[1] != fresh.saved[1] {
		s.add(true, "[?47h")
		s.screen(1)
		s.add(p.state.Shown == 0, "[?47l")
	}
	if p.tabs != fresh.tabs {
		s.add(true, "[3g")
		for col, is := range p.tabs {
			s.add(is, "[%dG\x1bH", col+1)
		}
	}
	s.add(p.state.Top != 0 || p.state.Bottom != rows-1, "[%d;%dr", p.state.Top+1, p.state.Bottom+1)
	if s.text != "" || p.state.Spot != (api.Spot{}) {
		s.toSpot(p.state.Shown, p.state.Spot, p.state.Top)
	}
	s.add(p.state.Insert, "[4h")
	s.add(!p.state.Wrap, "[?7l")
	return s.text
}

func TestDumpOfDrawnTexts(t *testing.T) {
	r := rand.New(rand.NewSource(8))
	for range 20000 {
		rows, cols := drawSize(r)
		text := drawSteps(r)
		if r.Intn(2) == 0 {
			text += drawText(r)
		}
		term := fed(t, rows, cols, text)
		p, dump := pictureOf(term), term.Dump()
		if want := scriptOf(p, rows, cols); dump != want {
			t.Fatalf("P9: on %d by %d behind %q: %q, want %q", rows, cols, text, dump, want)
		}
		checkDrawn(t, rows, cols, text, dump, p)
		if pictureOf(term) != p || term.Dump() != dump {
			t.Fatalf("P2: on %d by %d behind %q: Dump changes the terminal", rows, cols, text)
		}
		if again := fed(t, rows, cols, dump).Dump(); again != dump {
			t.Fatalf("P8: on %d by %d behind %q: %q, and of what that draws %q", rows, cols, text, dump, again)
		}
	}
}

func TestDumpOfEveryCharacter(t *testing.T) {
	const rows, cols = api.MaxRows, api.MaxCols
	text := ""
	for c := rune(0x20); c <= 0x10FFFF; c++ {
		text += string(c)
		if len(text) < 800 && c < 0x10FFFF {
			continue
		}
		term := fed(t, rows, cols, text)
		checkDrawn(t, rows, cols, text, term.Dump(), pictureOf(term))
		text = ""
	}
}

// What is begun is not told by Look, Cell, Saved and Tab, so it is not seen in the bytes; and Dump does not end it.
func TestDumpWithinACharacterOrASequence(t *testing.T) {
	for _, ahead := range []string{"", "\x1b[2;2Hab\x1b7\x1b[?47hx", "abc"} {
		want := fed(t, 3, 3, ahead).Dump()
		for _, whole := range []string{"\xe4\xb8\x96", "\xf0\x9f\x98\x80", "\x1b7", "\x1b(0", "\x1b[1;31m", "\x1b[?6h", "\x1b]abc\a", "\x1b[1:m"} {
			for at := 1; at < len(whole); at++ {
				term := fed(t, 3, 3, ahead, whole[:at])
				if got := term.Dump(); got != want {
					t.Errorf("P8: behind %q and %q: %q, want %q", ahead, whole[:at], got, want)
				}
				term.Feed(whole[at:] + "x")
				if pictureOf(term) != pictureOf(fed(t, 3, 3, ahead, whole, "x")) {
					t.Errorf("P2: behind %q Dump ends what %q begins", ahead, whole[:at])
				}
			}
		}
	}
}

func TestDumpEnds(t *testing.T) {
	for _, size := range [][2]int{{1, 1}, {1, 40}, {12, 1}, {12, 40}} {
		for _, text := range longTexts() {
			term := fed(t, size[0], size[1], text)
			checkDrawn(t, size[0], size[1], text[:20], term.Dump(), pictureOf(term))
		}
	}
}
