package chars_test

import (
	"math"
	"testing"

	"slate/chars"
)

func TestWidthAtTheEdges(t *testing.T) {
	for _, x := range []struct{ first, last, width int }{
		{0, 0x1F, 0}, {0x7F, 0x9F, 0},
		{0x300, 0x36F, 0}, {0x200B, 0x200F, 0}, {0xFE00, 0xFE0F, 0},
		{0x1100, 0x115F, 2}, {0x2E80, 0xA4CF, 2}, {0xAC00, 0xD7A3, 2},
		{0xF900, 0xFAFF, 2}, {0xFE30, 0xFE6F, 2}, {0xFF00, 0xFF60, 2},
		{0xFFE0, 0xFFE6, 2}, {0x1F300, 0x1F64F, 2}, {0x20000, 0x3FFFD, 2},
	} {
		for c := x.first; c <= x.last; c++ {
			if got := chars.Width(c); got != x.width {
				t.Fatalf("P3: Width(%#x) = %d, want %d", c, got, x.width)
			}
		}
		for _, c := range []int{x.first - 1, x.last + 1} {
			if got := chars.Width(c); got != 1 {
				t.Errorf("P3: Width(%#x) = %d, want 1", c, got)
			}
		}
	}
}

func TestWidthOfOthers(t *testing.T) {
	for _, c := range []int{' ', 'A', '~', 0xA0, 0xE9, 0x2518, 0xFFFD, 0xD800, 0xE000, 0x10FFFF, 0x110000, -1, -65, math.MinInt, math.MaxInt, math.MinInt32, math.MaxInt32, 1<<32 + 0x301, 1<<32 + 0x4E00, 1<<62 + 0x4E00} {
		if got := chars.Width(c); got != 1 {
			t.Errorf("P3: Width(%#x) = %d, want 1", c, got)
		}
	}
}
