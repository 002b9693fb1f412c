// Package octets is layer 1: integers of fixed width and length-prefixed strings. See shared/doc/01-octets.md.
package octets

import (
	"math/bits"

	"beadroll/api"
)

// shortage is what a reader panics with, so that no step of a reading has to pass on that bytes are missing.
type shortage struct{}

// reader takes bytes from the front of a string.
type reader struct {
	rest string
}

// take counts in uint64, because an integer that was read may be greater than any int.
func (r *reader) take(n uint64) string {
	if n > uint64(len(r.rest)) {
		panic(shortage{})
	}
	s := r.rest[:n]
	r.rest = r.rest[n:]
	return s
}

func (r *reader) integer(width int) uint64 {
	var n uint64
	for _, c := range []byte(r.take(uint64(width))) {
		n = n<<8 | uint64(c)
	}
	return n
}

func (r *reader) piece(width int) string {
	return r.take(r.integer(width))
}

func isWidth(w int) bool {
	return w == 1 || w == 2 || w == 4 || w == 8
}

func isPieceWidth(w int) bool {
	return w == 1 || w == 2 || w == 4
}

func allWidths(widths []int) bool {
	for _, w := range widths {
		if !isWidth(w) {
			return false
		}
	}
	return true
}

func fits(n uint64, width int) bool {
	return bits.Len64(n) <= 8*width
}

func appendInteger(b []byte, n uint64, width int) []byte {
	for i := width - 1; i >= 0; i-- {
		b = append(b, byte(n>>(8*i)))
	}
	return b
}

// Split returns the integers of these widths with which b begins, and the rest of b.
func Split(b string, widths []int) (v []uint64, rest string, e api.Errno) {
	if !allWidths(widths) {
		return nil, "", api.ErrArg
	}
	defer func() {
		switch p := recover().(type) {
		case nil:
		case shortage:
			v, rest, e = nil, "", api.ErrForm
		default: // a fault of the program must not look like one of b
			panic(p)
		}
	}()
	r := reader{b}
	for _, w := range widths {
		v = append(v, r.integer(w))
	}
	return v, r.rest, api.OK
}

// Join returns the bytes of the integers, each of its width.
func Join(v []uint64, widths []int) (string, api.Errno) {
	if !allWidths(widths) || len(v) != len(widths) {
		return "", api.ErrArg
	}
	var b []byte
	for i, n := range v {
		if !fits(n, widths[i]) {
			return "", api.ErrArg
		}
		b = appendInteger(b, n, widths[i])
	}
	return string(b), api.OK
}

// Cut returns the bytes of the piece with which b begins, and the rest of b.
func Cut(b string, width int) (s, rest string, e api.Errno) {
	if !isPieceWidth(width) {
		return "", "", api.ErrArg
	}
	defer func() {
		switch p := recover().(type) {
		case nil:
		case shortage:
			s, rest, e = "", "", api.ErrForm
		default: // a fault of the program must not look like one of b
			panic(p)
		}
	}()
	r := reader{b}
	s = r.piece(width)
	return s, r.rest, api.OK
}

// Piece returns s behind the integer of its length.
func Piece(s string, width int) (string, api.Errno) {
	if !isPieceWidth(width) {
		return "", api.ErrArg
	}
	n := uint64(len(s))
	if !fits(n, width) {
		return "", api.ErrLong
	}
	return string(appendInteger(nil, n, width)) + s, api.OK
}

// Pieces returns the bytes of the pieces of which b consists.
func Pieces(b string, width int) ([]string, api.Errno) {
	// Without pieces Cut is never asked, so the width is checked here.
	if !isPieceWidth(width) {
		return nil, api.ErrArg
	}
	var l []string
	for b != "" {
		s, rest, e := Cut(b, width)
		if e != api.OK {
			return nil, e
		}
		l = append(l, s)
		b = rest
	}
	return l, api.OK
}
