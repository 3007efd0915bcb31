package chars_test

import (
	"math"
	"strings"
	"testing"

	"slate/chars"
)

func TestLine(t *testing.T) {
	letters, lines := "jklmnqtuvwx", []rune("┘┐┌└┼─├┤┴┬│")
	for i, c := range letters {
		if got := chars.Line(int(c)); got != int(lines[i]) {
			t.Errorf("P5: the line of %c is U+%04X, want U+%04X", c, got, lines[i])
		}
	}
	for c := range 0x3000 {
		if got := chars.Line(c); got != c && !strings.ContainsRune(letters, rune(c)) {
			t.Errorf("P5: the line of U+%04X is U+%04X", c, got)
		}
	}
	for _, c := range []int{math.MinInt, -1, 0x10FFFF, 1<<32 + 'j', math.MaxInt} {
		if got := chars.Line(c); got != c {
			t.Errorf("P5: the line of %d is %d", c, got)
		}
	}
}
