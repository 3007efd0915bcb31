// Package chars: the bytes of a text as characters, and how wide a character is.
package chars

// Broken stands for bytes that make no character.
const Broken = 0xFFFD

// lead: a byte from first to last begins a character: mask picks its bits of it, more bytes follow, and the one right behind it is from low to high.
type lead struct {
	first, last byte
	mask        byte
	more        int
	low, high   byte
}

var leads = [...]lead{
	{0xC2, 0xDF, 0x1F, 1, 0x80, 0xBF},
	{0xE0, 0xE0, 0x0F, 2, 0xA0, 0xBF},
	{0xE1, 0xEC, 0x0F, 2, 0x80, 0xBF},
	{0xED, 0xED, 0x0F, 2, 0x80, 0x9F},
	{0xEE, 0xEF, 0x0F, 2, 0x80, 0xBF},
	{0xF0, 0xF0, 0x07, 3, 0x90, 0xBF},
	{0xF1, 0xF3, 0x07, 3, 0x80, 0xBF},
	{0xF4, 0xF4, 0x07, 3, 0x80, 0x8F},
}

// Reader reads bytes one by one. Its zero value has read nothing.
type Reader struct {
	more      int // bytes that are still awaited
	low, high byte
	value     int // what the bits so far make
}

// Take reads a byte and puts what is known by it behind list: no character, one, or Broken and one.
func (r *Reader) Take(list []int, b byte) []int {
	if r.more == 0 {
		return r.begin(list, b)
	}
	if b < r.low || b > r.high {
		return r.begin(r.End(list), b)
	}
	return r.join(list, b)
}

// End puts Broken behind list, if a character was begun, and forgets that one.
func (r *Reader) End(list []int) []int {
	if r.more == 0 {
		return list
	}
	*r = Reader{}
	return append(list, Broken)
}

func (r *Reader) begin(list []int, b byte) []int {
	if b < 0x80 {
		return append(list, int(b))
	}
	for _, l := range leads {
		if l.first <= b && b <= l.last {
			*r = Reader{more: l.more, low: l.low, high: l.high, value: int(b & l.mask)}
			return list
		}
	}
	return append(list, Broken)
}

func (r *Reader) join(list []int, b byte) []int {
	value := r.value<<6 | int(b&0x3F)
	if r.more == 1 {
		*r = Reader{}
		return append(list, value)
	}
	// Only the second byte of a character has bounds of its own.
	*r = Reader{more: r.more - 1, low: 0x80, high: 0xBF, value: value}
	return list
}
