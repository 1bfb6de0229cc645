// Package box writes and reads containers.
package box

import (
	"abacus/api"
	"abacus/matrix"
	"abacus/words"
)

const (
	mark = "ABAC\x01" // which each container begins with

	rowByRow       uint8 = 0
	columnByColumn uint8 = 1
)

// Write is the container of a matrix.
func Write(m matrix.Matrix, kind int) string {
	return string(append(summed(head(m, kind)), summed(payload(m, kind))...))
}

func head(m matrix.Matrix, kind int) []byte {
	order := rowByRow
	if kind == api.ColumnBox {
		order = columnByColumn
	}
	bytes := words.Append([]byte(mark), order)
	bytes = words.Append(bytes, uint16(m.Rows))
	return words.Append(bytes, uint16(m.Cols))
}

func payload(m matrix.Matrix, kind int) []byte {
	var bytes []byte
	for _, number := range m.Entries(kind) {
		bytes = words.Append(bytes, number)
	}
	return bytes
}

// summed is the bytes with their sum behind them.
func summed(bytes []byte) []byte {
	return words.Append(bytes, sumOf(bytes))
}
