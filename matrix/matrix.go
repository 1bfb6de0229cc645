// Package matrix holds matrices of numbers and goes through their entries.
package matrix

import (
	"iter"

	"abacus/api"
	"abacus/kinds"
)

// Place is where an entry stands, counted from 0 on.
type Place struct {
	Row, Col int
}

// Mirrored is the place with row and column exchanged.
func (p Place) Mirrored() Place {
	return Place{p.Col, p.Row}
}

// Matrix is a matrix of numbers. Its copies share them.
type Matrix struct {
	Rows, Cols int
	numbers    []uint64 // row by row
}

// New is a matrix of noughts.
func New(rows, cols int) Matrix {
	return Matrix{rows, cols, make([]uint64, rows*cols)}
}

// At is the number at a place.
func (m Matrix) At(p Place) uint64 {
	return m.numbers[p.Row*m.Cols+p.Col]
}

// Set puts a number at a place.
func (m Matrix) Set(p Place, number uint64) {
	m.numbers[p.Row*m.Cols+p.Col] = number
}

// Entries goes through what a file of the kind tells of the matrix, in its order.
func (m Matrix) Entries(kind int) iter.Seq2[Place, uint64] {
	if kind == api.RowBox {
		return m.byRows
	}
	entries := iter.Seq2[Place, uint64](m.byColumns)
	if kinds.Symmetric(kind) {
		entries = m.lower
	}
	if kinds.Coordinate(kind) {
		return only(entries, told)
	}
	return entries
}

func (m Matrix) byRows(yield func(Place, uint64) bool) {
	for row := range m.Rows {
		for col := range m.Cols {
			p := Place{row, col}
			if !yield(p, m.At(p)) {
				return
			}
		}
	}
}

func (m Matrix) byColumns(yield func(Place, uint64) bool) {
	for col := range m.Cols {
		for row := range m.Rows {
			p := Place{row, col}
			if !yield(p, m.At(p)) {
				return
			}
		}
	}
}

// lower goes through the entries on and below the diagonal.
func (m Matrix) lower(yield func(Place, uint64) bool) {
	only(m.byColumns, notAbove)(yield)
}

// only goes through those of the entries that keep is true of.
func only(entries iter.Seq2[Place, uint64], keep func(Place, uint64) bool) iter.Seq2[Place, uint64] {
	return func(yield func(Place, uint64) bool) {
		for p, number := range entries {
			if keep(p, number) && !yield(p, number) {
				return
			}
		}
	}
}

func notAbove(p Place, _ uint64) bool {
	return p.Row >= p.Col
}

// told holds for all but +0, which a place that has no entry is taken for; -0 is
// another number.
func told(_ Place, number uint64) bool {
	return number != 0
}

// Symmetric tells whether a square matrix is the same, bit for bit, with rows and
// columns exchanged.
func (m Matrix) Symmetric() bool {
	for p, number := range m.lower {
		if m.At(p.Mirrored()) != number {
			return false
		}
	}
	return true
}
