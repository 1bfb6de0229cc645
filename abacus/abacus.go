// Package abacus: matrices of floating-point numbers, written and read to the last bit: see DOC.md.
package abacus

import (
	"abacus/api"
	"abacus/number"
)

// Print tells a number with as few digits as may be (P2).
func Print(bits uint64) string { return number.Print(bits) }

// Scan reads a number's text (P3).
func Scan(text string) (uint64, api.Errno) { return number.Scan(text) }

// Writer writes a file.
type Writer struct{}

// NewWriter begins to write a matrix (P4).
func NewWriter(buffer []uint64, v api.View, kind int) (*Writer, api.Errno) { return nil, api.OK }

// Next gives the next bytes (P5).
func (w *Writer) Next(most int) string { return "" }

// Reader reads a file.
type Reader struct{}

// NewReader begins to read a file (P6).
func NewReader() *Reader { return nil }

// Feed takes the next bytes (P6).
func (r *Reader) Feed(bytes string) api.Errno { return api.OK }

// End ends a file (P8).
func (r *Reader) End() (api.Shape, api.Errno) { return api.Shape{}, api.OK }

// Into writes the matrix into a buffer (P9).
func (r *Reader) Into(buffer []uint64, v api.View) api.Errno { return api.OK }
