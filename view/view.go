// Package view finds the matrix that a view shows in a buffer.
package view

import (
	"abacus/api"
	"abacus/matrix"
	"abacus/number"
)

// Fits tells whether the view fits a buffer of so many numbers.
func Fits(v api.View, length int) bool {
	if length > api.MaxBuffer || !isSide(v.Rows) || !isSide(v.Cols) {
		return false
	}
	if v.Rows == 0 || v.Cols == 0 {
		return true
	}
	return inside(v, length) && !meets(v)
}

func isSide(n int) bool {
	return 0 <= n && n <= api.MaxSide
}

// inside tells whether all places of a view that has some are the buffer's: they
// are if the corners are.
func inside(v api.View, length int) bool {
	// Only what passes here can be reckoned with: other places may be too far away
	// for an int.
	if !isPlace(v.Offset, length) || leaves(v.Rows, v.RowStep) || leaves(v.Cols, v.ColStep) {
		return false
	}
	row, col := v.Rows-1, v.Cols-1
	return isPlace(at(v, row, 0), length) && isPlace(at(v, 0, col), length) && isPlace(at(v, row, col), length)
}

func isPlace(n, length int) bool {
	return 0 <= n && n < length
}

// leaves tells whether one step, if there is one to take, leads out of every buffer.
func leaves(side, step int) bool {
	return side > 1 && (step <= -api.MaxBuffer || step >= api.MaxBuffer)
}

// meets tells whether two places are the same: the way from one to the other,
// some rows down and some columns to either side, leads nowhere then.
func meets(v api.View) bool {
	for down := range v.Rows {
		for right := 1 - v.Cols; right < v.Cols; right++ {
			moved := down != 0 || right != 0
			if moved && down*v.RowStep+right*v.ColStep == 0 {
				return true
			}
		}
	}
	return false
}

func at(v api.View, row, col int) int {
	return v.Offset + row*v.RowStep + col*v.ColStep
}

// Copy is the matrix that a view that fits shows in a buffer, with the canonical
// nan for all nans, as files know no other.
func Copy(buffer []uint64, v api.View) matrix.Matrix {
	m := matrix.New(v.Rows, v.Cols)
	for p := range m.Places(api.RowBox) {
		m.Set(p, number.Canonical(buffer[at(v, p.Row, p.Col)]))
	}
	return m
}

// Put writes a matrix into the places of a buffer that a view that fits names for it.
func Put(buffer []uint64, v api.View, m matrix.Matrix) {
	for p := range m.Places(api.RowBox) {
		buffer[at(v, p.Row, p.Col)] = m.At(p)
	}
}
