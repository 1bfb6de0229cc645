package abacus_test

import (
	"math/rand/v2"
	"testing"

	"abacus/abacus"
	"abacus/api"
)

// randomPieces parts a file into pieces, empty ones among them.
func randomPieces(r *rand.Rand, file string, most int) []string {
	var pieces []string
	for file != "" {
		n := min(r.IntN(most+1), len(file))
		pieces = append(pieces, file[:n])
		file = file[n:]
	}
	return pieces
}

// randomMatrix is a view of a matrix that a kind takes, in a buffer.
func randomMatrix(r *rand.Rand, rows, cols, kind int) ([]uint64, api.View) {
	if isSymmetric(kind) {
		cols = rows
	}
	buffer, v := randomView(r, rows, cols)
	if !isSymmetric(kind) {
		return buffer, v
	}
	for i := range rows {
		for j := range i {
			buffer[placeOf(v, j, i)] = buffer[placeOf(v, i, j)]
		}
	}
	return buffer, v
}

// numbersOf is the matrix that a view shows, row by row, nans being the canonical one.
func numbersOf(buffer []uint64, v api.View) []uint64 {
	numbers := make([]uint64, v.Rows*v.Cols)
	for i := range v.Rows {
		for j := range v.Cols {
			bits := buffer[placeOf(v, i, j)]
			if bits&^signBits > infinityBits {
				bits = canonicalBits
			}
			numbers[i*v.Cols+j] = bits
		}
	}
	return numbers
}

// TestReturns writes matrices and reads them into other views.
func TestReturns(t *testing.T) {
	r := rand.New(rand.NewPCG(10, 1))
	for range 60 {
		for _, kind := range allKinds {
			buffer, v := randomMatrix(r, randomSide(r), randomSide(r), kind)
			numbers := numbersOf(buffer, v)
			file := written(t, newWriter(t, buffer, v, kind), 1+r.IntN(300))
			checkPieces(t, randomPieces(r, file, 1+r.IntN(300)), read(v.Rows, v.Cols, kind, numbers...))
			other, into := randomView(r, v.Rows, v.Cols)
			checkInto(t, ended(t, file), other, into, numbers)
		}
	}
}

// TestReturnsBesideOneAnother reads each piece as soon as it is written.
func TestReturnsBesideOneAnother(t *testing.T) {
	r := rand.New(rand.NewPCG(10, 2))
	for _, kind := range allKinds {
		buffer, v := randomMatrix(r, 9, 5, kind)
		numbers := numbersOf(buffer, v)
		w, reader := newWriter(t, buffer, v, kind), abacus.NewReader()
		clear(buffer)
		for piece := w.Next(11); piece != ""; piece = w.Next(11) {
			if err := reader.Feed(piece); err != api.OK {
				t.Fatalf("P10: kind %d: Feed(%q) = %d", kind, piece, err)
			}
		}
		checkRead(t, reader, read(v.Rows, v.Cols, kind, numbers...))
	}
}

// TestReturnsAllNumbers writes and reads numbers at the ends of all exponents.
func TestReturnsAllNumbers(t *testing.T) {
	var numbers []uint64
	for e := uint64(0); e <= 2047; e += 13 {
		for _, f := range []uint64{0, 1, 1<<52 - 1} {
			numbers = append(numbers, e<<52|f, e<<52|f|signBits)
		}
	}
	for len(numbers) >= 40 {
		part := numbers[:40]
		numbers = numbers[40:]
		for _, kind := range []int{api.ArrayGeneral, api.CoordinateGeneral, api.RowBox, api.ColumnBox} {
			v := rowsView(4, 10)
			file := written(t, newWriter(t, part, v, kind), 1000)
			checkPieces(t, []string{file}, read(4, 10, kind, numbersOf(part, v)...))
		}
	}
}

// TestReturnsCut cuts files at every byte: none of what is ahead is a file.
func TestReturnsCut(t *testing.T) {
	r := rand.New(rand.NewPCG(10, 3))
	for _, kind := range allKinds {
		for _, side := range []int{0, 1, 2, 3, 7} {
			buffer, v := randomMatrix(r, side, 3, kind)
			file := written(t, newWriter(t, buffer, v, kind), 1000)
			checkPieces(t, []string{file}, read(v.Rows, v.Cols, kind, numbersOf(buffer, v)...))
			for n := range len(file) {
				want := failsAtEnd(api.ErrEnd)
				if n == 0 {
					want = failsAtEnd(api.ErrFormat)
				}
				checkPieces(t, []string{file[:n/2], file[n/2 : n]}, want)
				checkPieces(t, randomPieces(r, file[:n], 20), want)
			}
		}
	}
}

// TestReturnsSpoilt turns bits within rows of 32 of containers that were written.
func TestReturnsSpoilt(t *testing.T) {
	r := rand.New(rand.NewPCG(10, 4))
	for range 300 {
		for _, kind := range []int{api.RowBox, api.ColumnBox} {
			buffer, v := randomMatrix(r, r.IntN(5), r.IntN(5), kind)
			file := written(t, newWriter(t, buffer, v, kind), 1000)
			for range 50 {
				from := r.IntN(8*len(file) - 31)
				checkSpoilt(t, file, from, r.Uint32()|1<<r.IntN(32))
			}
		}
	}
}
