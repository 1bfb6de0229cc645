// Package matrix holds matrices of numbers and goes through their entries.
package matrix

import (
	"iter"

	"abacus/api"
	"abacus/kinds"
)

// Place is where an entry stands, counted from 0 on.
type Place struct {
	Row, Col int
}

// Mirrored is the place with row and column exchanged.
func (p Place) Mirrored() Place {
	return Place{p.Col, p.Row}
}

// Matrix is a matrix of numbers. Its copies share them.
type Matrix struct {
	Rows, Cols int
	numbers    []uint64 // row by row
}

// New is a matrix of noughts.
func New(rows, cols int) Matrix {
	return Matrix{rows, cols, make([]uint64, rows*cols)}
}

// At is the number at a place.
func (m Matrix) At(p Place) uint64 {
	return m.numbers[p.Row*m.Cols+p.Col]
}

// Set puts a number at a place.
func (m Matrix) Set(p Place, number uint64) {
	m.numbers[p.Row*m.Cols+p.Col] = number
}

// Places goes through the places that a file of the kind may tell of, in its order.
func (m Matrix) Places(kind int) iter.Seq[Place] {
	switch {
	case kind == api.RowBox:
		return m.byRows
	case kinds.Symmetric(kind):
		return m.lower
	}
	return m.byColumns
}

// Entries goes through what a file of the kind tells of the matrix, in its order.
func (m Matrix) Entries(kind int) iter.Seq2[Place, uint64] {
	return func(yield func(Place, uint64) bool) {
		for p := range m.Places(kind) {
			number := m.At(p)
			// A place that has no entry is taken for +0; -0 is another number.
			if kinds.Coordinate(kind) && number == 0 {
				continue
			}
			if !yield(p, number) {
				return
			}
		}
	}
}

func (m Matrix) byRows(yield func(Place) bool) {
	for row := range m.Rows {
		for col := range m.Cols {
			if !yield(Place{row, col}) {
				return
			}
		}
	}
}

func (m Matrix) byColumns(yield func(Place) bool) {
	for col := range m.Cols {
		for row := range m.Rows {
			if !yield(Place{row, col}) {
				return
			}
		}
	}
}

// lower goes through the places on and below the diagonal.
func (m Matrix) lower(yield func(Place) bool) {
	for p := range m.byColumns {
		if p.Row >= p.Col && !yield(p) {
			return
		}
	}
}

// Symmetric tells whether a square matrix is the same, bit for bit, with rows and
// columns exchanged.
func (m Matrix) Symmetric() bool {
	for p := range m.lower {
		if m.At(p) != m.At(p.Mirrored()) {
			return false
		}
	}
	return true
}
