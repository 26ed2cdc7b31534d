// Package word is layer 1: numbers of fixed widths, as bytes. See
// shared/doc/01-word.md.
package word

import "tankard/api"

// A text's length is put as a number, so its width bounds the text.
const (
	textWidth = 2
	maxText   = 1<<(8*textWidth) - 1
)

// Reader reads numbers and texts one behind the other.
//
// It stays put at the first thing amiss, so that at is the place of the fault,
// too, and callers may ask once behind many reads.
type Reader struct {
	b     []byte
	at    int
	amiss bool
}

// Put is b's bytes and those of n behind them: P1.1.
func Put(b []byte, wide int, n uint64) ([]byte, error) {
	if !isWidth(wide) || !fits(n, wide) {
		return nil, api.ErrArg
	}
	return appendNumber(copyWithRoom(b, wide), wide, n), nil
}

// Text is b's bytes and those of the text s behind them: P1.1.
func Text(b []byte, s []byte) ([]byte, error) {
	if len(s) > maxText {
		return nil, api.ErrLarge
	}
	out := copyWithRoom(b, textWidth+len(s))
	out = appendNumber(out, textWidth, uint64(len(s)))
	return append(out, s...), nil
}

// Read is a reader at b's first byte: P1.2.
func Read(b []byte) *Reader { return &Reader{b: b} }

// Word is the number that stands next: P1.2.
func (r *Reader) Word(wide int) uint64 {
	if r.amiss || !isWidth(wide) || wide > r.Left() {
		r.amiss = true
		return 0
	}
	n := number(r.b[r.at : r.at+wide])
	r.at += wide
	return n
}

// Text is the text that stands next: P1.2.
func (r *Reader) Text(most int) []byte {
	size, ok := r.textSize()
	if !ok || size > most {
		r.amiss = true
		return nil
	}
	s := make([]byte, size)
	copy(s, r.b[r.at+textWidth:])
	r.at += textWidth + size
	return s
}

// Left is how many bytes are left: P1.2.
func (r *Reader) Left() int { return len(r.b) - r.at }

// Bad is the byte at which something is amiss, or -1: P1.2.
func (r *Reader) Bad() int {
	if r.amiss {
		return r.at
	}
	return -1
}

// textSize looks ahead without a step, since a text that can't be read is at
// fault where its length begins, not behind it.
func (r *Reader) textSize() (int, bool) {
	if r.amiss || r.Left() < textWidth {
		return 0, false
	}
	size := int(number(r.b[r.at : r.at+textWidth]))
	return size, size <= r.Left()-textWidth
}

func isWidth(wide int) bool {
	return wide == 1 || wide == 2 || wide == 4 || wide == 8
}

// fits leans on Go's shifts: one by all 64 bits leaves 0, so that the width of
// 8 takes every number.
func fits(n uint64, wide int) bool { return n>>(8*wide) == 0 }

// copyWithRoom keeps an append off the spare capacity of b, which is the
// caller's.
func copyWithRoom(b []byte, room int) []byte {
	return append(make([]byte, 0, len(b)+room), b...)
}

func appendNumber(b []byte, wide int, n uint64) []byte {
	for i := wide - 1; i >= 0; i-- {
		b = append(b, byte(n>>(8*i)))
	}
	return b
}

func number(b []byte) uint64 {
	n := uint64(0)
	for _, x := range b {
		n = n<<8 | uint64(x)
	}
	return n
}
