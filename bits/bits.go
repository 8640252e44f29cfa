// Package bits is layer 1: see shared/doc/01-bits.md.
package bits

import (
	"slices"

	"farebox/api"
)

const maxWidth = 32

// Field is a number in so many bits.
type Field struct {
	Width, Value int
}

// Writer has bits; its zero value has none.
type Writer struct {
	bytes []byte
	count int
}

// Reader goes through bits.
type Reader struct {
	bytes []byte
	at    int
	err   api.Errno
}

func rightWidth(width int) bool {
	return width >= 1 && width <= maxWidth
}

func (f Field) right() bool {
	return rightWidth(f.Width) && f.Value >= 0 && f.Value < 1<<f.Width
}

// mask is the place in its byte of the bit with this number.
func mask(bit int) byte {
	return 0x80 >> (bit % 8)
}

// Put writes fields. ErrArg.
func (w *Writer) Put(fs ...Field) api.Errno {
	// All are looked at ahead of the first write: a wrong one behind right ones must leave nothing.
	for _, f := range fs {
		if !f.right() {
			return api.ErrArg
		}
	}
	for _, f := range fs {
		w.put(f)
	}
	return api.OK
}

func (w *Writer) put(f Field) {
	for place := f.Width - 1; place >= 0; place-- {
		if w.count%8 == 0 {
			w.bytes = append(w.bytes, 0)
		}
		if f.Value>>place&1 == 1 {
			w.bytes[w.count/8] |= mask(w.count)
		}
		w.count++
	}
}

// Bytes are the bits, filled up.
func (w *Writer) Bytes() []byte {
	return slices.Clone(w.bytes)
}

// Len is how many bits there are.
func (w *Writer) Len() int {
	return w.count
}

// Read is a reader of bytes.
func Read(b []byte) *Reader {
	return &Reader{bytes: slices.Clone(b)}
}

// Take reads numbers. ErrArg, ErrShort.
func (r *Reader) Take(widths ...int) []int {
	if r.err != api.OK {
		return nil
	}
	r.err = r.check(widths)
	if r.err != api.OK {
		return nil
	}
	numbers := make([]int, 0, len(widths))
	for _, width := range widths {
		numbers = append(numbers, r.number(width))
	}
	return numbers
}

// A wrong width comes ahead of missing bits, wherever it stands, so all widths are summed first.
func (r *Reader) check(widths []int) api.Errno {
	sum := 0
	for _, width := range widths {
		if !rightWidth(width) {
			return api.ErrArg
		}
		sum += width
	}
	if sum > r.Left() {
		return api.ErrShort
	}
	return api.OK
}

func (r *Reader) number(width int) int {
	n := 0
	for range width {
		n <<= 1
		if r.bytes[r.at/8]&mask(r.at) != 0 {
			n |= 1
		}
		r.at++
	}
	return n
}

// Err is the first error.
func (r *Reader) Err() api.Errno {
	return r.err
}

// Left is how many bits are left.
func (r *Reader) Left() int {
	return 8*len(r.bytes) - r.at
}
