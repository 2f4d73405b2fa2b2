// Package octets is numbers as bytes: see DOC.md, chapter 1.
package octets

import (
	"bytes"

	"milepost/api"
)

// maxSize is the most bytes of a number: one of eight might not be told as an int.
const maxSize = 7

// sizeFits tells whether a number may have so many bytes.
func sizeFits(size int) bool { return 1 <= size && size <= maxSize }

// numFits tells whether a number can be written in size bytes.
func numFits(size, n int) bool { return n >= 0 && n>>(8*size) == 0 }

// Writer puts bytes one behind the other. The zero Writer is empty.
type Writer struct {
	all    []byte
	spoilt bool
}

// Nums writes numbers, each in size bytes, the high one first. A size that is not 1 to 7, or a number that does not fit in it, spoils the Writer.
func (w *Writer) Nums(size int, n ...int) *Writer {
	if w == nil || w.spoilt {
		return w
	}
	if !sizeFits(size) {
		return w.spoil()
	}
	for _, x := range n {
		if !numFits(size, x) {
			return w.spoil()
		}
		for at := size - 1; at >= 0; at-- {
			w.all = append(w.all, byte(x>>(8*at)))
		}
	}
	return w
}

// Raw writes bytes.
func (w *Writer) Raw(b ...byte) *Writer {
	if w == nil || w.spoilt {
		return w
	}
	w.all = append(w.all, b...)
	return w
}

// Bytes is all of them; ErrArg of a spoilt Writer.
func (w *Writer) Bytes() ([]byte, api.Errno) {
	if w == nil || w.spoilt {
		return nil, api.ErrArg
	}
	return bytes.Clone(w.all), api.OK
}

// spoil lets go of the bytes, as none of them will be told any more.
func (w *Writer) spoil() *Writer {
	w.all, w.spoilt = nil, true
	return w
}

// Reader takes bytes one behind the other.
type Reader struct {
	rest   []byte
	spoilt bool
}

// Read is a reader of bytes.
func Read(b []byte) *Reader { return &Reader{rest: bytes.Clone(b)} }

// Num reads a number of size bytes, the high one first; 0, and the Reader is spoilt, if the size is not 1 to 7, or too few are left.
func (r *Reader) Num(size int) int {
	if !sizeFits(size) {
		r.spoil()
		return 0
	}
	n := 0
	for _, b := range r.take(size) {
		n = n<<8 | int(b)
	}
	return n
}

// Raw reads n bytes; none, and the Reader is spoilt, if n is below 0, or too few are left.
func (r *Reader) Raw(n int) []byte { return bytes.Clone(r.take(n)) }

// Left is how many are left.
func (r *Reader) Left() int {
	if r == nil {
		return 0
	}
	return len(r.rest)
}

// Done tells whether all were read, and nothing spoilt the Reader.
func (r *Reader) Done() api.Errno {
	if r == nil || r.spoilt || len(r.rest) > 0 {
		return api.ErrBad
	}
	return api.OK
}

// take is the next n bytes, still the Reader's own.
func (r *Reader) take(n int) []byte {
	if r == nil || n < 0 || n > len(r.rest) {
		r.spoil()
		return nil
	}
	next := r.rest[:n]
	r.rest = r.rest[n:]
	return next
}

// spoil lets go of the bytes, so that nothing is left to be read.
func (r *Reader) spoil() {
	if r != nil {
		r.rest, r.spoilt = nil, true
	}
}
