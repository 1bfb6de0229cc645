// Package market writes and reads texts: Matrix Market files.
package market

import (
	"strconv"
	"strings"

	"abacus/kinds"
	"abacus/matrix"
	"abacus/number"
)

// Words of the first line.
const (
	mark       = "%%MatrixMarket"
	object     = "matrix"
	array      = "array"
	coordinate = "coordinate"
	field      = "real"
	general    = "general"
	symmetric  = "symmetric"
)

// Write is the text of a matrix.
func Write(m matrix.Matrix, kind int) string {
	var text strings.Builder
	addLine(&text, first(kind)...)
	addLine(&text, sizes(m, kind)...)
	for p, bits := range m.Entries(kind) {
		addLine(&text, entry(p, bits, kind)...)
	}
	return text.String()
}

func addLine(text *strings.Builder, words ...string) {
	text.WriteString(strings.Join(words, " "))
	text.WriteByte('\n')
}

func first(kind int) []string {
	layout, symmetry := array, general
	if kinds.Coordinate(kind) {
		layout = coordinate
	}
	if kinds.Symmetric(kind) {
		symmetry = symmetric
	}
	return []string{mark, object, layout, field, symmetry}
}

func sizes(m matrix.Matrix, kind int) []string {
	words := []string{strconv.Itoa(m.Rows), strconv.Itoa(m.Cols)}
	if !kinds.Coordinate(kind) {
		return words
	}
	count := 0
	for range m.Entries(kind) {
		count++
	}
	return append(words, strconv.Itoa(count))
}

func entry(p matrix.Place, bits uint64, kind int) []string {
	text := number.Print(bits)
	if !kinds.Coordinate(kind) {
		return []string{text}
	}
	return []string{strconv.Itoa(p.Row + 1), strconv.Itoa(p.Col + 1), text}
}
