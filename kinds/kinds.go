// Package kinds tells what sets the kinds of files apart.
package kinds

import "abacus/api"

// Known tells whether there is such a kind.
func Known(kind int) bool {
	return api.ArrayGeneral <= kind && kind <= api.ColumnBox
}

// Container tells whether files of the kind are containers, not texts.
func Container(kind int) bool {
	return kind == api.RowBox || kind == api.ColumnBox
}

// Coordinate tells whether entries say where they stand.
func Coordinate(kind int) bool {
	return kind == api.CoordinateGeneral || kind == api.CoordinateSymmetric
}

// Symmetric tells whether a matrix is told by its entries on and below the diagonal.
func Symmetric(kind int) bool {
	return kind == api.ArraySymmetric || kind == api.CoordinateSymmetric
}
