// Package octet is layer 1: numbers as bytes, the lowest byte first. See shared/doc/01-octet.md.
package octet

import (
	"math"
	"strings"

	"tierce/api"
)

// mostBytes is how many bytes an answer has at most: of a text beyond that nothing is promised.
const mostBytes = 1<<31 - 1

const zeroByte = "\x00"

// Writer writes numbers and texts, one behind the other. An empty one is ready for use.
//
// The builder stands behind a pointer, so that a copy of a Writer can be written too: a builder that was copied panics.
// The last zeros are only counted, so that a Fill of any number costs nothing till bytes come behind it.
type Writer struct {
	kept  *strings.Builder
	own   int // how many of kept's bytes are this Writer's: a copy of it may have added others
	zeros int // how many zeros stand behind these
}

// Put adds n's lowest size bytes (from 1 to 8), the lowest first.
func (w *Writer) Put(n uint64, size int) {
	var list [8]byte
	size = nearest(size)
	for i := range size {
		list[i] = byte(n >> (8 * i))
	}
	w.Text(string(list[:size]))
}

// Text adds bytes as they are.
func (w *Writer) Text(s string) {
	if w == nil || s == "" {
		return
	}
	if w.Len() > mostBytes-len(s) {
		// String won't tell these bytes any more, so it is enough to count them.
		w.zeros += min(len(s), math.MaxInt-w.Len())
		return
	}
	b := w.builder()
	b.WriteString(strings.Repeat(zeroByte, w.zeros))
	b.WriteString(s)
	w.own, w.zeros = b.Len(), 0
}

// Fill adds zeros, till there are n bytes in all.
func (w *Writer) Fill(n int) {
	if w != nil && n > w.Len() {
		w.zeros = n - w.own
	}
}

// String answers all bytes, in order (nothing, where there are more than an answer can have).
func (w *Writer) String() string {
	if w == nil || w.Len() > mostBytes {
		return ""
	}
	return w.written() + strings.Repeat(zeroByte, w.zeros)
}

// Len answers how many bytes there are.
func (w *Writer) Len() int {
	if w == nil {
		return 0
	}
	return w.own + w.zeros
}

// written answers the bytes ahead of the last zeros.
func (w *Writer) written() string {
	if w.kept == nil {
		return ""
	}
	return w.kept.String()[:w.own]
}

// builder answers one that ends with this Writer's own bytes: where a copy went on in the one they had, that stays the copy's.
func (w *Writer) builder() *strings.Builder {
	if w.kept == nil || w.kept.Len() != w.own {
		text := w.written()
		w.kept = new(strings.Builder)
		w.kept.WriteString(text)
	}
	return w.kept
}

// Reader reads numbers and texts, one behind the other.
type Reader struct {
	left  string
	short bool // more was asked for than was left
}

// Of answers a reader of s.
func Of(s string) *Reader { return &Reader{left: s} }

// Get answers the number of the next size bytes (from 1 to 8); 0, if there are too few.
func (r *Reader) Get(size int) uint64 {
	var n uint64
	for i, b := range []byte(r.Take(nearest(size))) {
		n |= uint64(b) << (8 * i)
	}
	return n
}

// Take answers the next n bytes; nothing, if there are too few, and then nothing is left.
func (r *Reader) Take(n int) string {
	if r == nil || n <= 0 {
		return ""
	}
	if n > len(r.left) {
		r.left, r.short = "", true
		return ""
	}
	s := r.left[:n]
	r.left = r.left[n:]
	return s
}

// Zeros answers whether all bytes that are left are 0, and reads them.
func (r *Reader) Zeros() bool {
	if r == nil {
		return false
	}
	rest := strings.TrimLeft(r.left, zeroByte)
	r.left = ""
	return rest == ""
}

// End answers ErrForm, if there were too few bytes, or some are left.
func (r *Reader) End() api.Errno {
	if r == nil {
		return api.ErrNil
	}
	if r.short || r.left != "" {
		return api.ErrForm
	}
	return api.OK
}

// nearest answers the nearest size that a number can have.
func nearest(size int) int { return min(max(size, 1), 8) }
