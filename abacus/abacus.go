// Package abacus: matrices of floating-point numbers, written and read to the last bit: see DOC.md.
package abacus

import (
	"strings"

	"abacus/api"
	"abacus/matrix"
	"abacus/number"
	"abacus/view"
)

// Print tells a number with as few digits as may be (P2).
func Print(bits uint64) string { return number.Print(bits) }

// Scan reads a number's text (P3).
func Scan(text string) (uint64, api.Errno) { return number.Scan(text) }

// Writer writes a file.
type Writer struct {
	rest string // what Next has not given of the file
}

// NewWriter begins to write a matrix (P4).
func NewWriter(buffer []uint64, v api.View, kind int) (*Writer, api.Errno) {
	file, err := write(buffer, v, kind)
	if err != api.OK {
		return nil, err
	}
	return &Writer{rest: file}, api.OK
}

// Next gives the next bytes (P5).
func (w *Writer) Next(most int) string {
	n := min(max(most, 0), len(w.rest))
	// A copy, lest a short answer that is kept hold the whole file.
	next := strings.Clone(w.rest[:n])
	w.rest = w.rest[n:]
	return next
}

// Reader reads a file.
type Reader struct {
	state  state     // what takes the next piece
	file   file      // nil ahead of the first byte, and when no more is to be read
	err    api.Errno // of the file
	whole  bool      // an End was OK, and what follows is the file's
	matrix matrix.Matrix
	kind   int
}

// NewReader begins to read a file (P6).
func NewReader() *Reader {
	r := &Reader{}
	r.state = r.begin
	return r
}

// Feed takes the next bytes (P6).
func (r *Reader) Feed(bytes string) api.Errno {
	next, err := r.state(bytes)
	r.state = next
	return err
}

// End ends a file (P8).
func (r *Reader) End() (api.Shape, api.Errno) {
	if !r.whole && r.err == api.OK {
		r.state, r.err = r.finish()
	}
	return api.Shape{Rows: r.matrix.Rows, Cols: r.matrix.Cols, Kind: r.kind}, r.err
}

// Into writes the matrix into a buffer (P9).
func (r *Reader) Into(buffer []uint64, v api.View) api.Errno {
	switch {
	case !r.whole:
		return api.ErrEnd
	case !view.Fits(v, len(buffer)):
		return api.ErrView
	case v.Rows != r.matrix.Rows || v.Cols != r.matrix.Cols:
		return api.ErrShape
	}
	view.Put(buffer, v, r.matrix)
	return api.OK
}
