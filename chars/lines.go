package chars

// stroke: what a letter stands for in the alphabet of lines.
type stroke struct {
	letter, line int
}

var strokes = [...]stroke{
	{'j', 0x2518},
	{'k', 0x2510},
	{'l', 0x250C},
	{'m', 0x2514},
	{'n', 0x253C},
	{'q', 0x2500},
	{'t', 0x251C},
	{'u', 0x2524},
	{'v', 0x2534},
	{'w', 0x252C},
	{'x', 0x2502},
}

// Line tells what c is in the alphabet of lines: itself, if it stands for no line.
func Line(c int) int {
	for _, s := range strokes {
		if s.letter == c {
			return s.line
		}
	}
	return c
}
