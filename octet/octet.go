// Package octet is layer 1: numbers and texts as bytes: see shared/doc/01-octet.md.
package octet

import (
	"strings"

	"forebay/api"
)

const (
	low     = -1 << 31
	high    = 1<<31 - 1
	width   = 4
	longest = 1 << 20
)

// Writer writes.
//
// What it wrote stands in pieces that never change, not in one growing buffer: so a Writer that was copied as a value can't write into what the other one keeps.
type Writer struct {
	last *piece
	size int
}

// piece is what one call wrote, and what stands ahead of it.
type piece struct {
	ahead *piece
	bytes string
}

// Num writes numbers.
func (w *Writer) Num(l ...int) api.Errno {
	if w == nil {
		return api.ErrArg
	}
	for _, n := range l {
		if n < low || n > high {
			return api.ErrRange
		}
	}
	w.add(octets(l...))
	return api.OK
}

// Text writes a text.
func (w *Writer) Text(s string) api.Errno {
	if w == nil {
		return api.ErrArg
	}
	if len(s) > longest {
		return api.ErrLong
	}
	w.add(octets(len(s)) + s)
	return api.OK
}

// Out is all that was written.
func (w *Writer) Out() string {
	if w == nil {
		return ""
	}
	b := make([]byte, w.size)
	end := w.size
	for p := w.last; p != nil; p = p.ahead {
		end -= len(p.bytes)
		copy(b[end:], p.bytes)
	}
	return string(b)
}

// add lays bytes behind all that was written.
func (w *Writer) add(s string) {
	if s == "" {
		return
	}
	w.last = &piece{w.last, s}
	w.size += len(s)
}

// octets are the numbers' bytes.
func octets(l ...int) string {
	b := make([]byte, 0, width*len(l))
	for _, n := range l {
		b = append(b, byte(n>>24), byte(n>>16), byte(n>>8), byte(n))
	}
	return string(b)
}

// Reader reads.
type Reader struct {
	left string
}

// New is what reads bytes.
func New(s string) *Reader {
	return &Reader{s}
}

// Num reads a number.
func (r *Reader) Num() (int, api.Errno) {
	return r.Within(low, high)
}

// Within reads a number from one to another one.
func (r *Reader) Within(from, to int) (int, api.Errno) {
	n, e := r.next()
	if e != api.OK {
		return 0, e
	}
	if n < from || n > to {
		return 0, api.ErrRange
	}
	r.left = r.left[width:]
	return n, api.OK
}

// Text reads a text.
func (r *Reader) Text(most int) (string, api.Errno) {
	n, e := r.next()
	if e != api.OK {
		return "", e
	}
	if n < 0 || n > most {
		return "", api.ErrRange
	}
	if n > len(r.left)-width {
		return "", api.ErrShort
	}
	// A piece of what is kept would keep all of it alive.
	s := strings.Clone(r.left[width : width+n])
	r.left = r.left[width+n:]
	return s, api.OK
}

// Left is how many bytes are left.
func (r *Reader) Left() int {
	if r == nil {
		return 0
	}
	return len(r.left)
}

// End tells whether all was read.
func (r *Reader) End() api.Errno {
	if r == nil {
		return api.ErrArg
	}
	if r.left != "" {
		return api.ErrForm
	}
	return api.OK
}

// next is the number that stands next; it is not read yet.
func (r *Reader) next() (int, api.Errno) {
	if r == nil {
		return 0, api.ErrArg
	}
	if len(r.left) < width {
		return 0, api.ErrShort
	}
	s := r.left
	n := uint32(s[0])<<24 | uint32(s[1])<<16 | uint32(s[2])<<8 | uint32(s[3])
	return int(int32(n)), api.OK
}
