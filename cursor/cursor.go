// Package cursor is layer 1: it reads a slice of bytes from its beginning to its end. See shared/doc/01-cursor.md.
package cursor

import (
	"bytes"
	"cmp"
	"math/bits"

	"cretula/api"
)

// Cursor is a slice of bytes with a position. A nil cursor behaves like one without bytes.
type Cursor struct {
	input []byte // never changed, and never handed out
	pos   int    // from 0 to len(input)
}

// New returns a cursor over a copy of b, at the position 0.
func New(b []byte) *Cursor { return &Cursor{input: bytes.Clone(b)} }

// orEmpty stands in for a nil cursor. A move of the stand-in may be lost, since its only position is 0.
func (c *Cursor) orEmpty() *Cursor {
	if c == nil {
		return &Cursor{}
	}
	return c
}

// ahead returns the next n bytes, of which there must be as many, without the capacity to append to the bytes behind them.
func (c *Cursor) ahead(n int) []byte { return c.input[c.pos : c.pos+n : c.pos+n] }

// short is the error where the bytes end too early.
func (c *Cursor) short() api.Error { return api.Error{Code: api.ErrShort, Offset: len(c.input)} }

// outside is the error of a number outside its limits.
func (c *Cursor) outside() api.Error { return api.Error{Code: api.ErrRange, Offset: c.pos} }

// Pos returns the position.
func (c *Cursor) Pos() int { return c.orEmpty().pos }

// Left returns the number of bytes behind the position.
func (c *Cursor) Left() int {
	c = c.orEmpty()
	return len(c.input) - c.pos
}

// Byte returns the byte at the position, and moves behind it.
func (c *Cursor) Byte() (byte, api.Error) {
	c = c.orEmpty()
	if c.Left() == 0 {
		return 0, c.short()
	}
	b := c.input[c.pos]
	c.pos++
	return b, api.Error{}
}

// Take returns a copy of the next n bytes, and moves behind them.
func (c *Cursor) Take(n int) ([]byte, api.Error) {
	c = c.orEmpty()
	if n < 0 {
		return nil, c.outside()
	}
	if n > c.Left() {
		return nil, c.short()
	}
	taken := bytes.Clone(c.ahead(n))
	c.pos += n
	return taken, api.Error{}
}

// Rest returns a copy of the bytes behind the position, and moves nothing.
func (c *Cursor) Rest() []byte {
	c = c.orEmpty()
	return bytes.Clone(c.ahead(c.Left()))
}

// Seek moves to a position, if it is from 0 to the number of bytes.
func (c *Cursor) Seek(pos int) api.Error {
	c = c.orEmpty()
	if pos < 0 || pos > len(c.input) {
		return c.outside()
	}
	c.pos = pos
	return api.Error{}
}

// Uint returns the number with the big-endian digits b, and whether it is below 2^64.
func Uint(b []byte) (uint64, bool) {
	n := uint64(0)
	for _, digit := range b {
		// Any further digit, even a zero, multiplies the number by 256.
		if n >= 1<<56 {
			return 0, false
		}
		n = n<<8 | uint64(digit)
	}
	return n, true
}

// Minimal returns the big-endian digits of n without zeros at the beginning; one zero byte for 0.
func Minimal(n uint64) []byte {
	digits := make([]byte, max(1, (bits.Len64(n)+7)/8))
	for i := len(digits) - 1; i >= 0; i-- {
		digits[i] = byte(n)
		n >>= 8
	}
	return digits
}

// Compare returns -1, 0 or 1 if a comes before b in lexicographic order, is equal to it, or comes after it.
func Compare(a, b []byte) int {
	compareAt := func(i int) int { return cmp.Compare(a[i], b[i]) }
	for i := range min(len(a), len(b)) {
		if order := compareAt(i); order != 0 {
			return order
		}
	}
	return cmp.Compare(len(a), len(b))
}
