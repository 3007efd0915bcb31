package chars

// span: the characters from first to last have this width.
type span struct {
	first, last, width int
}

// All that stand in no span have width 1.
var spans = [...]span{
	{0x0000, 0x001F, 0},
	{0x007F, 0x009F, 0},
	{0x0300, 0x036F, 0},
	{0x1100, 0x115F, 2},
	{0x200B, 0x200F, 0},
	{0x2E80, 0xA4CF, 2},
	{0xAC00, 0xD7A3, 2},
	{0xF900, 0xFAFF, 2},
	{0xFE00, 0xFE0F, 0},
	{0xFE30, 0xFE6F, 2},
	{0xFF00, 0xFF60, 2},
	{0xFFE0, 0xFFE6, 2},
	{0x1F300, 0x1F64F, 2},
	{0x20000, 0x3FFFD, 2},
}

// Width tells the width of c, which may be any number.
func Width(c int) int {
	for _, s := range spans {
		if s.first <= c && c <= s.last {
			return s.width
		}
	}
	return 1
}
