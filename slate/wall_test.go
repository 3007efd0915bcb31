package slate_test

import (
	"fmt"
	"math/rand"
	"slices"
	"strings"
	"sync"
	"testing"

	"slate/api"
	"slate/slate"
)

// wallOf: the answer that is wanted, one terminal after the other.
func wallOf(t *testing.T, rows, cols int, texts []string) []string {
	t.Helper()
	var list []string
	for _, text := range texts {
		list = append(list, fed(t, rows, cols, text).Dump())
	}
	return list
}

func TestWall(t *testing.T) {
	for _, x := range []struct {
		rows, cols  int
		texts, want []string
	}{
		{2, 3, nil, nil},
		{2, 3, []string{}, nil},
		{2, 3, []string{""}, []string{""}},
		{2, 3, []string{"a", "", "b"}, []string{"\x1b[1;1Ha\x1b[1;2H", "", "\x1b[1;1Hb\x1b[1;2H"}},
		{2, 3, []string{"ab\x1b[1mc", "ab\x1b[1mc"}, []string{"\x1b[1;1Hab\x1b[0;1mc\x1b[1;3Hc", "\x1b[1;1Hab\x1b[0;1mc\x1b[1;3Hc"}},
		{2, 3, []string{"\xe4\xb8", "\x96", "\x1b[", "4h"}, []string{"", "\x1b[1;1H\uFFFD\x1b[1;2H", "", "\x1b[1;1H4h\x1b[1;3H"}},
		{1, 1, []string{"世", "x", "\x1b[?7l"}, []string{"", "\x1b[1;1Hx\x1b[1;1Hx", "\x1b[?7l"}},
		{12, 40, []string{"\x1b[99;99H世", "\x1b[12;40H"}, []string{"\x1b[12;1H世\x1b[12;3H", "\x1b[12;40H"}},
	} {
		if got, no := slate.Wall(x.rows, x.cols, x.texts); no != api.OK || !slices.Equal(got, x.want) {
			t.Errorf("P10: Wall(%d, %d, %q) = %q, %d, want %q", x.rows, x.cols, x.texts, got, no, x.want)
		}
	}
}

func TestWallRefuses(t *testing.T) {
	sizes := append(slices.Clone(numbers), 3, 5, 10)
	for _, rows := range sizes {
		for _, cols := range sizes {
			for _, count := range []int{0, 1, 2, 15, 16, 17, 18, 100} {
				texts := slices.Repeat([]string{"a\x1b[1m\xff"}, count)
				want, size := api.OK, count
				if count > 16 {
					want, size = api.ErrMany, 0
				}
				if rows < 1 || rows > 12 || cols < 1 || cols > 40 {
					want, size = api.ErrSize, 0
				}
				list, no := slate.Wall(rows, cols, texts)
				if no != want || len(list) != size {
					t.Errorf("P10: Wall(%d, %d) of %d texts: %q, %d, want %d", rows, cols, count, list, no, want)
				}
			}
		}
	}
}

func TestWallOfDrawnTexts(t *testing.T) {
	r := rand.New(rand.NewSource(10))
	for range 500 {
		rows, cols := drawSize(r)
		var texts []string
		for range r.Intn(api.MaxWall + 1) {
			texts = append(texts, drawSteps(r)+drawText(r))
		}
		want := wallOf(t, rows, cols, texts)
		for range 3 {
			if got, no := slate.Wall(rows, cols, texts); no != api.OK || !slices.Equal(got, want) {
				t.Fatalf("P10: Wall(%d, %d, %q) = %q, %d, want %q", rows, cols, texts, got, no, want)
			}
		}
	}
}

// Texts of very different lengths end in another order than they begin.
func TestWallKeepsTheOrder(t *testing.T) {
	var texts []string
	for i := range api.MaxWall {
		texts = append(texts, strings.Repeat("x\n", 40000>>i)+fmt.Sprintf("\x1bc%d", i))
	}
	got, no := slate.Wall(3, 7, texts)
	if want := wallOf(t, 3, 7, texts); no != api.OK || !slices.Equal(got, want) {
		t.Errorf("P10: %q, %d, want %q", got, no, want)
	}
}

func TestWallSharesNothing(t *testing.T) {
	for count := range api.MaxWall + 1 {
		texts := make([]string, count, count+5)
		for i := range texts[:cap(texts)] {
			texts[:cap(texts)][i] = fmt.Sprintf("\x1b[1m%d", i)
		}
		handed := slices.Clone(texts[:cap(texts)])
		before, _ := slate.Wall(2, 5, texts)
		want := slices.Clone(before)
		list, _ := slate.Wall(2, 5, texts)
		scribble(list, "turned")
		_ = append(list, "turned", "turned")
		if !slices.Equal(texts[:cap(texts)], handed) {
			t.Fatalf("P2: the texts that were handed in are changed: %q", texts[:cap(texts)])
		}
		if !slices.Equal(before, want) {
			t.Fatalf("P2: a list that came out before is changed: %q", before)
		}
		if got, _ := slate.Wall(2, 5, texts); !slices.Equal(got, want) {
			t.Fatalf("P2: a list that comes out later is changed: %q", got)
		}
		scribble(texts, "turned")
		if !slices.Equal(before, want) {
			t.Fatalf("P2: the texts that were handed in are kept: %q", before)
		}
	}
}

func TestWallsAtOnce(t *testing.T) {
	texts := slices.Repeat([]string{"ab\x1b[1m世\x1b7\x1b[?47hx", "\x1b[3g\x1bH\x1b(0q", "\xe4\xb8"}, 5)
	want := wallOf(t, 3, 9, texts)
	var group sync.WaitGroup
	for range 20 {
		group.Go(func() {
			if got, no := slate.Wall(3, 9, texts); no != api.OK || !slices.Equal(got, want) {
				t.Errorf("P2: beside other calls: %q, %d, want %q", got, no, want)
			}
		})
	}
	group.Wait()
}

func TestWallEnds(t *testing.T) {
	for list := range slices.Chunk(longTexts(), api.MaxWall) {
		if got, no := slate.Wall(4, 9, list); no != api.OK || !slices.Equal(got, wallOf(t, 4, 9, list)) {
			t.Errorf("P10: long texts: %q, %d", got, no)
		}
	}
}
