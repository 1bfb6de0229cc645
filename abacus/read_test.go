package abacus_test

import (
	"slices"
	"strings"
	"testing"

	"abacus/abacus"
	"abacus/api"
)

const (
	arrayLine      = firstLine + "array real general\n"
	arrayEvenLine  = firstLine + "array real symmetric\n"
	pointsLine     = firstLine + "coordinate real general\n"
	pointsEvenLine = firstLine + "coordinate real symmetric\n"

	atEnd = -1
)

// verdict is what a Reader must make of a file.
type verdict struct {
	err     api.Errno
	at      int // behind how many bytes Feed answers err; atEnd, if End does
	shape   api.Shape
	numbers []uint64 // row by row
}

func read(rows, cols, kind int, numbers ...uint64) verdict {
	return verdict{at: atEnd, shape: api.Shape{Rows: rows, Cols: cols, Kind: kind}, numbers: numbers}
}

// failsAt is the verdict on a file that fails at its last byte.
func failsAt(file string, err api.Errno) verdict {
	return verdict{err: err, at: len(file)}
}

func failsAtEnd(err api.Errno) verdict {
	return verdict{err: err, at: atEnd}
}

// checkFile feeds a file at once, byte by byte and in pieces of other lengths.
func checkFile(t *testing.T, file string, want verdict) {
	t.Helper()
	for _, piece := range []int{1, 2, 3, 7, 50, max(len(file), 1)} {
		var pieces []string
		for rest := range slices.Chunk([]byte(file), piece) {
			pieces = append(pieces, string(rest))
		}
		checkPieces(t, pieces, want)
	}
	checkPieces(t, []string{"", file, "", ""}, want)
}

// checkPieces feeds a file in pieces, and holds all that the Reader answers against
// the verdict.
func checkPieces(t *testing.T, pieces []string, want verdict) {
	t.Helper()
	r := abacus.NewReader()
	fed := 0
	for i, piece := range pieces {
		fed += len(piece)
		err := api.OK
		if want.at != atEnd && fed >= want.at {
			err = want.err
		}
		if got := r.Feed(piece); got != err {
			t.Fatalf("P6, P7: of %q, Feed of %d bytes, %d in all: %d, want %d (%+v)", strings.Join(pieces, ""), len(piece), fed, got, err, want)
		}
		if i%5 == 0 {
			checkNoMatrix(t, r)
		}
	}
	if want.err != api.OK {
		checkFailed(t, r, want.err)
		return
	}
	checkRead(t, r, want)
}

// checkNoMatrix holds of a Reader of which no End was OK.
func checkNoMatrix(t *testing.T, r *abacus.Reader) {
	t.Helper()
	buffer := []uint64{7}
	for _, v := range []api.View{rowsView(0, 0), rowsView(1, 1), rowsView(9, 9), {Rows: -1}} {
		if err := r.Into(buffer, v); err != api.ErrEnd || buffer[0] != 7 {
			t.Fatalf("P9: Into without an End that was OK = %d, %d", err, buffer)
		}
	}
}

// checkFailed holds of a Reader of which End is an error.
func checkFailed(t *testing.T, r *abacus.Reader, want api.Errno) {
	t.Helper()
	for _, piece := range []string{"", "\n", arrayLine + "0 0\n"} {
		if shape, err := r.End(); err != want || shape != (api.Shape{}) {
			t.Fatalf("P8: End = %+v, %d, want %d", shape, err, want)
		}
		checkNoMatrix(t, r)
		if err := r.Feed(piece); err != want {
			t.Fatalf("P7, P8: Feed(%q) behind the error %d = %d", piece, want, err)
		}
	}
}

// checkRead holds of a Reader of which End is OK.
func checkRead(t *testing.T, r *abacus.Reader, want verdict) {
	t.Helper()
	rows, cols := want.shape.Rows, want.shape.Cols
	for _, piece := range []string{"", "x", "\n", "1\n"} {
		if shape, err := r.End(); err != api.OK || shape != want.shape {
			t.Fatalf("P8: End = %+v, %d, want %+v", shape, err, want.shape)
		}
		got := make([]uint64, rows*cols)
		for i := range got {
			got[i] = 7
		}
		if err := r.Into(got, rowsView(rows, cols)); err != api.OK || !slices.Equal(got, want.numbers) {
			t.Fatalf("P9: Into = %d, %x, want %x", err, got, want.numbers)
		}
		if err := r.Feed(piece); err != api.ErrEnd {
			t.Fatalf("P8: Feed(%q) behind an End that was OK = %d", piece, err)
		}
	}
}

func TestReadTexts(t *testing.T) {
	const one, two, three = bitsOne, bitsTwo, bitsThree
	for _, c := range []struct {
		file string
		want verdict
	}{
		{pointsLine + "2 2 3\n1 1 1e0\n1 2 -0\n2 2 3e0\n", read(2, 2, api.CoordinateGeneral, one, signBits, 0, three)},
		{arrayLine + "2 3\n1\n2\n3\n0\n-0\n-1\n", read(2, 3, api.ArrayGeneral, one, three, signBits, two, 0, one|signBits)},
		{arrayEvenLine + "3 3\n1\n2\n3\n-0\ninf\nnan\n", read(3, 3, api.ArraySymmetric, one, two, three, two, signBits, infinityBits, three, infinityBits, canonicalBits)},
		{pointsLine + "2 3 2\n2 3 2\n1 1 1\n", read(2, 3, api.CoordinateGeneral, one, 0, 0, 0, 0, two)},
		{pointsEvenLine + "3 3 3\n3 1 2\n3 3 3\n2 1 -1\n", read(3, 3, api.CoordinateSymmetric, 0, one|signBits, two, one|signBits, 0, 0, two, 0, three)},
		// Entries of value 0 are entries as well.
		{pointsLine + "1 2 2\n1 2 0\n1 1 -0\n", read(1, 2, api.CoordinateGeneral, signBits, 0)},
		// As many entries as there are places, and none.
		{pointsEvenLine + "2 2 3\n1 1 1\n2 1 2\n2 2 3\n", read(2, 2, api.CoordinateSymmetric, one, two, two, three)},
		{pointsLine + "2 2 4\n2 2 1\n2 1 2\n1 2 3\n1 1 -1\n", read(2, 2, api.CoordinateGeneral, one|signBits, three, two, one)},
		{pointsEvenLine + "2 2 0\n", read(2, 2, api.CoordinateSymmetric, 0, 0, 0, 0)},
		// No rows, no columns.
		{arrayLine + "0 0\n", read(0, 0, api.ArrayGeneral)},
		{arrayLine + "0 40\n", read(0, 40, api.ArrayGeneral)},
		{arrayLine + "40 0\n", read(40, 0, api.ArrayGeneral)},
		{arrayEvenLine + "0 0\n", read(0, 0, api.ArraySymmetric)},
		{pointsLine + "0 7 0\n", read(0, 7, api.CoordinateGeneral)},
		{pointsLine + "7 0 0\n", read(7, 0, api.CoordinateGeneral)},
		{pointsEvenLine + "0 0 0\n", read(0, 0, api.CoordinateSymmetric)},
		// The most rows and columns.
		{arrayLine + "1 40\n" + strings.Repeat("1\n", 40), read(1, 40, api.ArrayGeneral, slices.Repeat([]uint64{one}, 40)...)},
		{arrayLine + "40 40\n" + strings.Repeat("2\n", 1600), read(40, 40, api.ArrayGeneral, slices.Repeat([]uint64{two}, 1600)...)},
		{arrayEvenLine + "40 40\n" + strings.Repeat("2\n", 820), read(40, 40, api.ArraySymmetric, slices.Repeat([]uint64{two}, 1600)...)},
		{pointsLine + "40 40 1\n40 40 1\n", read(40, 40, api.CoordinateGeneral, append(make([]uint64, 1599), one)...)},
		// Words of nine digits.
		{pointsLine + "000000001 000000002 000000001\n000000001 000000002 000000003\n", read(1, 2, api.CoordinateGeneral, 0, three)},
		// Texts of numbers.
		{arrayLine + "3 3\n+1.\n.1e1\n0010E-1\n2.4703282292062328e-324\n2.4703282292062327e-324\n1.7976931348623159e308\n-1e-400\n-inf\n+inf\n",
			read(3, 3, api.ArrayGeneral, one, 1, signBits, one, 0, infinityBits|signBits, one, infinityBits, infinityBits)},
		{arrayLine + "1 1\n" + strings.Repeat("0", 59) + "1\n", read(1, 1, api.ArrayGeneral, one)},
	} {
		checkFile(t, c.file, c.want)
	}
}

func TestReadBlanks(t *testing.T) {
	one := read(1, 1, api.ArrayGeneral, bitsOne)
	point := read(2, 1, api.CoordinateGeneral, 0, bitsOne)
	blanks := []string{" ", "\t", "\r", " \t\r", "\r\r\t\t  "}
	for _, b := range blanks {
		// Between words, behind the last, and, but for the first line, ahead of the first.
		checkFile(t, strings.Join([]string{"%%MatrixMarket", "matrix", "array", "real", "general", "\n", "1", "1", "\n", "1", "\n"}, b), one)
		checkFile(t, strings.Join([]string{"%%MatrixMarket", "matrix", "coordinate", "real", "general", "\n", "2", "1", "1", "\n", "2", "1", "1e0", "\n", ""}, b)+"\n", point)
		// Lines without words, anywhere behind the first.
		none := b + "\n\n"
		checkFile(t, arrayLine+none+"1 1\n"+none+"1\n"+none, one)
		checkFile(t, pointsLine+none+none+"2 1 1\n"+none+"2 1 1\n"+none+none, point)
		checkFile(t, arrayLine+none+"%\n"+none+"%%\n"+none+"1 1\n1\n", one)
		checkFile(t, arrayLine+none+"0 0\n"+none, read(0, 0, api.ArrayGeneral))
	}
	// No other bytes are blanks: they are bytes of words.
	for _, b := range []string{"\v", "\f", "\x00", "\x85", "\u00a0", "\u0085", "\u2003", "\x1f", "\b", ",", ";"} {
		file := "%%MatrixMarket" + b + "matrix array real general\n"
		checkFile(t, file, failsAt(file, api.ErrFormat))
		file = arrayLine + "1" + b + "1\n"
		checkFile(t, file, failsAt(file, api.ErrFormat))
		file = arrayLine + "1 1 " + b + "\n"
		checkFile(t, file, failsAt(file, api.ErrFormat))
		file = arrayLine + b + "\n"
		checkFile(t, file, failsAt(file, api.ErrFormat))
		file = arrayLine + "1 1\n1" + b + "\n"
		checkFile(t, file, failsAt(file, api.ErrNumber))
		file = arrayLine + "1 1\n1\n" + b + "\n"
		checkFile(t, file, failsAt(file, api.ErrCount))
	}
}

func TestReadComments(t *testing.T) {
	one := read(1, 1, api.ArrayGeneral, bitsOne)
	for _, comment := range []string{"%", "%%", "% a comment", "%1 1", "%\x00\xff\r", "% %% MatrixMarket ", arrayLine[:len(arrayLine)-1]} {
		line := comment + "\n"
		checkFile(t, arrayLine+line+"1 1\n1\n", one)
		checkFile(t, arrayLine+strings.Repeat(line, 20)+"\n"+line+"1 1\n1\n", one)
		checkFile(t, arrayLine+line, failsAtEnd(api.ErrEnd))
		// Behind the sizes there may be none, wherever.
		for _, file := range []string{
			arrayLine + "0 0\n" + line, arrayLine + "1 1\n" + line, arrayLine + "1 1\n1\n" + line, arrayLine + "1 1\n1\n\n" + line,
			arrayEvenLine + "1 1\n" + line, pointsLine + "1 1 0\n" + line, pointsLine + "1 1 1\n" + line, pointsEvenLine + "1 1 1\n1 1 1\n" + line,
		} {
			checkFile(t, file, failsAt(file, api.ErrFormat))
		}
		// A blank ahead of it makes it none.
		file := arrayLine + " " + line
		checkFile(t, file, failsAt(file, api.ErrFormat))
	}
	// What looks like a comment but for the blank ahead is an entry, told by its words.
	file := arrayLine + "1 1\n %\n"
	checkFile(t, file, failsAt(file, api.ErrNumber))
	file = arrayLine + "0 0\n\t%x\n"
	checkFile(t, file, failsAt(file, api.ErrCount))
}

func TestReadFirstByte(t *testing.T) {
	checkFile(t, "", failsAtEnd(api.ErrFormat))
	for b := range 256 {
		file := string([]byte{byte(b)})
		switch b {
		case '%', 'A':
			checkFile(t, file, failsAtEnd(api.ErrEnd))
		default:
			checkFile(t, file, failsAt(file, api.ErrFormat))
			checkFile(t, file+arrayLine+"0 0\n", failsAt(file, api.ErrFormat))
		}
	}
}

func TestReadFirstLine(t *testing.T) {
	for _, file := range []string{
		"%\n", "%%\n", "%%MatrixMarket\n", "%%MatrixMarket matrix array real\n", "%%MatrixMarket matrix array real general general\n",
		"%%MatrixMarket matrix array real general x\n", "%%matrixmarket matrix array real general\n", "%%MatrixMarket Matrix array real general\n",
		"%%MatrixMarket matrix Array real general\n", "%%MatrixMarket matrix array Real general\n", "%%MatrixMarket matrix array real General\n",
		"%%MatrixMarketmatrix array real general\n", "%%MatrixMarke matrix array real general\n", "%%MatrixMarkets matrix array real general\n",
		"% %MatrixMarket matrix array real general\n", "%%MatrixMarket matrix array integer general\n", "%%MatrixMarket vector array real general\n",
		"%%MatrixMarket matrix array complex general\n", "%%MatrixMarket matrix array real hermitian\n", "%%MatrixMarket matrix array real skew-symmetric\n",
		"%%MatrixMarket matrix sparse real general\n", "%%MatrixMarket array matrix real general\n", "%%MatrixMarket matrix array general real\n",
		"%%MatrixMarket matrix real array general\n", "%%MatrixMarket matrix array real symmetri\n", "%%MatrixMarket matrix coordinate pattern general\n",
		"%MatrixMarket matrix array real general\n", "%%%MatrixMarket matrix array real general\n", "%%MatrixMarket matrix array real general%\n",
		"% a comment\n", "%" + strings.Repeat("x", 199) + "\n",
	} {
		checkFile(t, file, failsAt(file, api.ErrFormat))
		checkFile(t, file+"1 1\n1\n", failsAt(file, api.ErrFormat))
	}
	file := arrayLine + arrayLine[2:]
	checkFile(t, file, failsAt(file, api.ErrFormat))
}

func TestReadSizes(t *testing.T) {
	for _, c := range []struct {
		first, sizes string
		want         api.Errno
	}{
		// Words.
		{arrayLine, "2", api.ErrFormat}, {arrayLine, "2 2 1", api.ErrFormat}, {arrayLine, "2 2 4", api.ErrFormat}, {arrayLine, "2 2 2 2", api.ErrFormat},
		{arrayLine, "x y", api.ErrFormat}, {arrayLine, "2 y", api.ErrFormat}, {arrayLine, "x 2", api.ErrFormat},
		{arrayLine, "-1 1", api.ErrFormat}, {arrayLine, "1 +1", api.ErrFormat}, {arrayLine, "1. 1", api.ErrFormat}, {arrayLine, "1 1e0", api.ErrFormat}, {arrayLine, "0x1 1", api.ErrFormat},
		{arrayLine, "1 1_0", api.ErrFormat}, {arrayLine, "1 \u0661", api.ErrFormat}, {arrayLine, "1 1/", api.ErrFormat}, {arrayLine, "1: 1", api.ErrFormat}, {arrayLine, "inf 1", api.ErrFormat},
		{arrayLine, "0000000001 1", api.ErrFormat}, {arrayLine, "1 0000000001", api.ErrFormat}, {arrayLine, "1000000000 1", api.ErrFormat},
		{arrayLine, "18446744073709551617 1", api.ErrFormat}, {arrayLine, "4294967297 1", api.ErrFormat},
		{pointsLine, "2 2", api.ErrFormat}, {pointsLine, "2", api.ErrFormat}, {pointsLine, "2 2 1 1", api.ErrFormat}, {pointsLine, "2 2 x", api.ErrFormat}, {pointsLine, "2 2 -1", api.ErrFormat},
		{pointsLine, "x 2 1", api.ErrFormat}, {pointsLine, "2 x 1", api.ErrFormat}, {pointsLine, "1 1 0000000001", api.ErrFormat}, {pointsLine, "1 1 1e0", api.ErrFormat},
		// ErrFormat ahead of all others.
		{arrayLine, "41 x", api.ErrFormat}, {arrayLine, "41 1 1", api.ErrFormat}, {arrayEvenLine, "1 2 3", api.ErrFormat}, {pointsEvenLine, "1 2 x", api.ErrFormat}, {pointsLine, "41 1 0000000000", api.ErrFormat}, {arrayEvenLine, "41", api.ErrFormat},
		// Limits.
		{arrayLine, "41 1", api.ErrTooLarge}, {arrayLine, "1 41", api.ErrTooLarge}, {arrayLine, "0 41", api.ErrTooLarge}, {arrayLine, "41 0", api.ErrTooLarge},
		{arrayLine, "1 999999999", api.ErrTooLarge}, {arrayLine, "999999999 999999999", api.ErrTooLarge}, {arrayLine, "000000041 1", api.ErrTooLarge},
		{arrayLine, "40 40", api.OK}, {arrayLine, "000000040 40", api.OK}, {pointsLine, "40 40 1600", api.OK}, {pointsEvenLine, "40 40 820", api.OK},
		// ErrTooLarge ahead of ErrShape and ErrCount.
		{arrayEvenLine, "41 2", api.ErrTooLarge}, {arrayEvenLine, "2 41", api.ErrTooLarge}, {pointsEvenLine, "41 2 9999", api.ErrTooLarge}, {pointsLine, "41 1 42", api.ErrTooLarge}, {pointsEvenLine, "41 41 1", api.ErrTooLarge},
		{arrayEvenLine, "1 2", api.ErrShape}, {arrayEvenLine, "40 39", api.ErrShape}, {arrayEvenLine, "0 1", api.ErrShape}, {arrayEvenLine, "1 0", api.ErrShape}, {pointsEvenLine, "2 1 0", api.ErrShape},
		// ErrShape ahead of ErrCount.
		{pointsEvenLine, "1 2 9", api.ErrShape}, {pointsEvenLine, "2 1 999999999", api.ErrShape},
		{pointsLine, "2 2 5", api.ErrCount}, {pointsLine, "0 0 1", api.ErrCount}, {pointsLine, "0 40 1", api.ErrCount}, {pointsLine, "40 40 1601", api.ErrCount}, {pointsLine, "1 1 999999999", api.ErrCount}, {pointsLine, "2 3 7", api.ErrCount},
		{pointsEvenLine, "2 2 4", api.ErrCount}, {pointsEvenLine, "0 0 1", api.ErrCount}, {pointsEvenLine, "40 40 821", api.ErrCount}, {pointsEvenLine, "1 1 2", api.ErrCount},
		{pointsLine, "2 2 4", api.OK}, {pointsLine, "2 3 6", api.OK}, {pointsEvenLine, "2 2 3", api.OK}, {pointsEvenLine, "1 1 1", api.OK},
	} {
		file := c.first + c.sizes + "\n"
		want := failsAt(file, c.want)
		if c.want == api.OK {
			want = failsAtEnd(api.ErrEnd) // the entries are missing
		}
		checkFile(t, file, want)
		checkFile(t, c.first+c.sizes, failsAtEnd(api.ErrEnd))
	}
}

func TestReadEntries(t *testing.T) {
	long := strings.Repeat("0", 60) + "1"
	for _, c := range []struct {
		ahead, entry string
		want         api.Errno
	}{
		// Words.
		{arrayLine + "2 2\n", "1 1", api.ErrFormat}, {arrayLine + "2 2\n", "1 1 1", api.ErrFormat}, {arrayLine + "2 2\n", "x x", api.ErrFormat},
		{pointsLine + "2 2 2\n", "1", api.ErrFormat}, {pointsLine + "2 2 2\n", "1 1", api.ErrFormat}, {pointsLine + "2 2 2\n", "1 1 1 1", api.ErrFormat},
		{pointsLine + "2 2 2\n", "x 1 1", api.ErrFormat}, {pointsLine + "2 2 2\n", "1 x 1", api.ErrFormat}, {pointsLine + "2 2 2\n", "-1 1 1", api.ErrFormat}, {pointsLine + "2 2 2\n", "1 1.0 1", api.ErrFormat},
		{pointsLine + "2 2 2\n", "+1 1 1", api.ErrFormat}, {pointsLine + "2 2 2\n", "0000000001 1 1", api.ErrFormat}, {pointsLine + "2 2 2\n", "1 0000000001 1", api.ErrFormat}, {pointsLine + "2 2 2\n", "1 4294967297 1", api.ErrFormat},
		// ErrFormat ahead of all others.
		{arrayLine + "1 1\n1\n", "1 1", api.ErrFormat}, {arrayLine + "0 0\n", "x x", api.ErrFormat}, {pointsLine + "2 2 0\n", "1 1", api.ErrFormat}, {pointsLine + "2 2 0\n", "a 1 1", api.ErrFormat},
		{pointsLine + "2 2 1\n1 1 1\n", "1 0000000001 x", api.ErrFormat}, {pointsLine + "2 2 2\n", "3 a x", api.ErrFormat}, {pointsLine + "2 2 2\n", "a 1 x", api.ErrFormat}, {pointsEvenLine + "2 2 2\n", "1 2", api.ErrFormat},
		// ErrCount ahead of ErrPlace and ErrNumber.
		{arrayLine + "1 1\n1\n", "1", api.ErrCount}, {arrayLine + "1 1\n1\n", "x", api.ErrCount}, {arrayLine + "0 0\n", "1", api.ErrCount}, {arrayLine + "0 40\n", "1", api.ErrCount}, {arrayEvenLine + "2 2\n1\n1\n1\n", "1", api.ErrCount},
		{pointsLine + "2 2 1\n1 1 1\n", "1 2 1", api.ErrCount}, {pointsLine + "2 2 1\n1 1 1\n", "1 1 x", api.ErrCount}, {pointsLine + "2 2 0\n", "3 3 x", api.ErrCount}, {pointsLine + "0 0 0\n", "1 1 1", api.ErrCount},
		{pointsEvenLine + "2 2 1\n1 1 1\n", "1 2 1", api.ErrCount}, {pointsLine + "1 1 1\n1 1 1\n", "1 1 1", api.ErrCount}, {pointsLine + "1 1 1\n1 1 1\n\n \n", "1 1 1", api.ErrCount},
		// Places out of range.
		{pointsLine + "2 3 2\n", "0 1 1", api.ErrPlace}, {pointsLine + "2 3 2\n", "1 0 1", api.ErrPlace}, {pointsLine + "2 3 2\n", "3 1 1", api.ErrPlace}, {pointsLine + "2 3 2\n", "1 4 1", api.ErrPlace}, {pointsLine + "2 3 2\n", "3 3 1", api.ErrPlace},
		{pointsLine + "2 3 2\n", "999999999 1 1", api.ErrPlace}, {pointsLine + "2 3 2\n", "1 999999999 1", api.ErrPlace}, {pointsLine + "2 3 2\n", "000000000 1 1", api.ErrPlace}, {pointsLine + "40 40 2\n", "41 1 1", api.ErrPlace}, {pointsLine + "40 40 2\n", "40 41 1", api.ErrPlace},
		{pointsLine + "40 40 2\n", "1 1600 1", api.ErrPlace}, {pointsLine + "40 40 2\n", "0 41 1", api.ErrPlace}, {pointsLine + "40 40 2\n", "2 0 1", api.ErrPlace},
		// Above the diagonal.
		{pointsEvenLine + "2 2 2\n", "1 2 1", api.ErrPlace}, {pointsEvenLine + "40 40 2\n", "39 40 1", api.ErrPlace}, {pointsEvenLine + "2 2 2\n2 1 1\n", "1 2 1", api.ErrPlace}, {pointsEvenLine + "2 2 2\n", "3 1 1", api.ErrPlace},
		{pointsEvenLine + "2 2 2\n", "2 1 1", api.OK}, {pointsEvenLine + "2 2 2\n", "2 2 1", api.OK}, {pointsLine + "2 2 2\n", "1 2 1", api.OK},
		// Twice.
		{pointsLine + "2 2 2\n1 1 1\n", "1 1 2", api.ErrPlace}, {pointsLine + "2 2 2\n1 1 0\n", "1 1 0", api.ErrPlace}, {pointsLine + "2 2 3\n1 1 0\n1 2 0\n", "1 1 0", api.ErrPlace}, {pointsLine + "2 2 3\n1 2 0\n1 1 0\n", "01 02 0", api.ErrPlace}, {pointsEvenLine + "2 2 3\n2 1 1\n1 1 1\n", "2 1 1", api.ErrPlace},
		{pointsLine + "2 2 3\n1 2 1\n", "2 1 1", api.OK},
		// ErrPlace ahead of ErrNumber.
		{pointsLine + "2 2 2\n", "0 1 x", api.ErrPlace}, {pointsLine + "2 2 2\n", "1 3 x", api.ErrPlace}, {pointsEvenLine + "2 2 2\n", "1 2 x", api.ErrPlace}, {pointsLine + "2 2 2\n1 1 1\n", "1 1 x", api.ErrPlace},
		// No numbers.
		{arrayLine + "2 2\n", "x", api.ErrNumber}, {arrayLine + "2 2\n", "1e", api.ErrNumber}, {arrayLine + "2 2\n", ".", api.ErrNumber}, {arrayLine + "2 2\n", "Inf", api.ErrNumber}, {arrayLine + "2 2\n", "0x1", api.ErrNumber}, {arrayLine + "2 2\n", "-nan", api.ErrNumber},
		{arrayLine + "2 2\n", "1,5", api.ErrNumber}, {arrayLine + "2 2\n", "1\x00", api.ErrNumber}, {arrayLine + "2 2\n", "1\xff", api.ErrNumber}, {arrayEvenLine + "2 2\n1\n2\n", "1e0e", api.ErrNumber}, {arrayLine + "2 2\n", long, api.ErrNumber}, {arrayLine + "2 2\n", long[1:], api.OK},
		{pointsLine + "2 2 1\n", "1 1 x", api.ErrNumber}, {pointsLine + "2 2 1\n", "1 1 1e0e", api.ErrNumber}, {pointsLine + "2 2 1\n", "1 1 " + long, api.ErrNumber}, {pointsEvenLine + "2 2 1\n", "2 1 +nan", api.ErrNumber}, {pointsLine + "2 2 2\n", "1 1 " + long[1:], api.OK},
	} {
		file := c.ahead + c.entry + "\n"
		want := failsAt(file, c.want)
		if c.want == api.OK {
			want = failsAtEnd(api.ErrEnd) // there are others to come
		}
		checkFile(t, file, want)
		// Not ahead of the end of the line.
		checkFile(t, c.ahead+c.entry, failsAtEnd(api.ErrEnd))
	}
}

func TestReadEnds(t *testing.T) {
	for _, file := range []string{
		// Within a line, whatever it has.
		"%", "%%", arrayLine[:len(arrayLine)-1], arrayLine + "0 0", arrayLine + "0 0\n ", arrayLine + "0 0\n%", arrayLine + "0 0\nx x x", arrayLine + "1 1\n1", arrayLine + "1 1\n1\n\r", arrayLine + "x",
		pointsLine + "2 2 0\n\t", pointsLine + "1 1 1\n1 1 1", pointsLine + "1 1 1\n1 1 1\n1 1 1", arrayLine + "%",
		// No sizes.
		arrayLine, arrayLine + "\n", arrayLine + " \n\t\n", arrayLine + "%\n", pointsEvenLine + "% 0 0 0\n\n",
		// Fewer entries.
		arrayLine + "1 1\n", arrayLine + "2 2\n1\n1\n1\n", arrayEvenLine + "2 2\n1\n1\n", pointsLine + "2 2 1\n", pointsLine + "2 2 2\n1 1 1\n", pointsEvenLine + "2 2 3\n1 1 1\n2 1 1\n\n", arrayLine + "40 40\n" + strings.Repeat("0\n", 1599), arrayEvenLine + "40 40\n" + strings.Repeat("0\n", 819),
	} {
		checkFile(t, file, failsAtEnd(api.ErrEnd))
	}
}

func TestReadLongLines(t *testing.T) {
	full := func(text string, with string) string {
		return text + strings.Repeat(with, api.MaxLine-len(text))
	}
	first := arrayLine[:len(arrayLine)-1]
	for _, c := range []struct {
		ahead, line, behind string
		want                verdict
	}{
		{"", full(first, " "), "0 0\n", read(0, 0, api.ArrayGeneral)},
		{"", full(first, "\r"), "0 0\n", read(0, 0, api.ArrayGeneral)},
		{"", full("%", "x"), "", verdict{err: api.ErrFormat, at: api.MaxLine + 1}},
		{arrayLine, full("", " "), "0 0\n", read(0, 0, api.ArrayGeneral)},
		{arrayLine, full("", "\t"), "0 0\n", read(0, 0, api.ArrayGeneral)},
		{arrayLine, full("%", "x"), "0 0\n", read(0, 0, api.ArrayGeneral)},
		{arrayLine, full("0 0", " "), "", read(0, 0, api.ArrayGeneral)},
		{arrayLine, full("", " ")[3:] + "0 0", "", read(0, 0, api.ArrayGeneral)},
		{arrayLine + "0 0\n", full("", " "), "", read(0, 0, api.ArrayGeneral)},
		{arrayLine + "1 1\n", full("1", "\t"), "", read(1, 1, api.ArrayGeneral, bitsOne)},
		{pointsLine + "1 1 1\n", full("1 1", " ")[:api.MaxLine-1] + "1", "", read(1, 1, api.CoordinateGeneral, bitsOne)},
		{arrayLine + "1 1\n", full("", "x"), "", verdict{err: api.ErrNumber, at: len(arrayLine) + 4 + api.MaxLine + 1}},
	} {
		checkFile(t, c.ahead+c.line+"\n"+c.behind, c.want)
		// One byte more is too long, whatever it is, and ahead of the end of the line.
		over := len(c.ahead) + api.MaxLine + 1
		for _, more := range []string{" ", "x", "\r", " \n" + c.behind, "x\n", strings.Repeat("x", 1000)} {
			checkFile(t, c.ahead+c.line+more, verdict{err: api.ErrLine, at: over})
		}
		checkFile(t, c.ahead+c.line, failsAtEnd(api.ErrEnd))
	}
}
