package cells

// Sheet is the rows of a screen, or some of them that stand together.
type Sheet []Row

// NewSheet makes a sheet of blank cells.
func NewSheet(rows, cols int) Sheet {
	s := make(Sheet, rows)
	for i := range s {
		s[i] = NewRow(cols)
	}
	return s
}

// Clear makes all cells blank.
func (s Sheet) Clear() {
	for _, r := range s {
		r.wipe()
	}
}

// Up moves the rows n up; those at the bottom are cleared.
func (s Sheet) Up(n int) {
	kept := len(s) - min(n, len(s))
	for i := range kept {
		copy(s[i], s[i+n])
	}
	s[kept:].Clear()
}

// Down moves the rows n down; those at the top are cleared.
func (s Sheet) Down(n int) {
	n = min(n, len(s))
	for i := len(s) - 1; i >= n; i-- {
		copy(s[i], s[i-n])
	}
	s[:n].Clear()
}
