package abacus_test

import (
	"math/rand/v2"
	"slices"
	"testing"

	"abacus/abacus"
	"abacus/api"
)

// ended is a Reader of a file that was fed and ended without an error.
func ended(t *testing.T, file string) *abacus.Reader {
	t.Helper()
	r := abacus.NewReader()
	if err := r.Feed(file); err != api.OK {
		t.Fatalf("P7: Feed(%q) = %d", file, err)
	}
	if _, err := r.End(); err != api.OK {
		t.Fatalf("P8: End of %q = %d", file, err)
	}
	return r
}

// checkInto holds a buffer that Into was given against what the document says of it.
func checkInto(t *testing.T, r *abacus.Reader, buffer []uint64, v api.View, numbers []uint64) {
	t.Helper()
	want := slices.Clone(buffer)
	for i := range v.Rows {
		for j := range v.Cols {
			want[placeOf(v, i, j)] = numbers[i*v.Cols+j]
		}
	}
	if err := r.Into(buffer, v); err != api.OK || !slices.Equal(buffer, want) {
		t.Fatalf("P9: Into(.., %+v) = %d, %x, want %x", v, err, buffer, want)
	}
}

func checkIntoRefused(t *testing.T, r *abacus.Reader, buffer []uint64, v api.View, want api.Errno) {
	t.Helper()
	before := slices.Clone(buffer)
	if err := r.Into(buffer, v); err != want || !slices.Equal(buffer, before) {
		t.Fatalf("P9: Into(%d numbers, %+v) = %d, want %d", len(buffer), v, err, want)
	}
}

func TestInto(t *testing.T) {
	files := []string{arrayLine + "2 3\n1\n2\n3\n-0\n0\n-1\n", headOf(0, 2, 3) + withSum(payloadOf(bitsOne, bitsThree, 0, bitsTwo, signBits, bitsOne|signBits))}
	numbers := []uint64{bitsOne, bitsThree, 0, bitsTwo, signBits, bitsOne | signBits}
	for _, file := range files {
		r := ended(t, file)
		for _, v := range []api.View{
			rowsView(2, 3), {Rows: 2, Cols: 3, RowStep: 1, ColStep: 2}, {Rows: 2, Cols: 3, Offset: 5, RowStep: -3, ColStep: -1}, {Rows: 2, Cols: 3, Offset: 2, RowStep: 3, ColStep: -1},
			{Rows: 2, Cols: 3, Offset: 3, RowStep: -3, ColStep: 1}, {Rows: 2, Cols: 3, Offset: 4, RowStep: 7, ColStep: 4}, {Rows: 2, Cols: 3, Offset: 19, RowStep: -7, ColStep: -4}, {Rows: 2, Cols: 3, Offset: 1, RowStep: 1, ColStep: 8},
		} {
			buffer := make([]uint64, 20)
			for i := range buffer {
				buffer[i] = uint64(1000 + i)
			}
			checkInto(t, r, buffer, v, numbers)
		}
		// The buffer of one call is nothing to the next one.
		buffer := make([]uint64, 6)
		checkInto(t, r, buffer, rowsView(2, 3), numbers)
		clear(buffer)
		checkInto(t, r, make([]uint64, 6), rowsView(2, 3), numbers)
	}
}

func TestIntoErrors(t *testing.T) {
	r := ended(t, arrayLine+"2 3\n1\n2\n3\n4\n5\n6\n")
	buffer := make([]uint64, 9)
	for _, v := range []api.View{
		// Of a fitting number of rows and columns, and of others: ErrView ahead of ErrShape.
		{Rows: 2, Cols: 3}, {Rows: 2, Cols: 3, RowStep: 2, ColStep: 1}, {Rows: 2, Cols: 3, Offset: 4, RowStep: 3, ColStep: 1}, {Rows: 2, Cols: 3, Offset: -1, RowStep: 3, ColStep: 1}, {Rows: 2, Cols: 3, RowStep: 1 << 63 >> 1, ColStep: 1},
		{Rows: 2, Cols: 3, RowStep: -3, ColStep: 1}, rowsView(9, 9), rowsView(41, 0), rowsView(0, 41), rowsView(-1, 3), rowsView(2, -3), {Rows: 3, Cols: 2}, rowsView(4, 3),
	} {
		checkIntoRefused(t, r, buffer, v, api.ErrView)
	}
	for _, v := range []api.View{rowsView(3, 2), rowsView(2, 2), rowsView(3, 3), rowsView(1, 6), rowsView(6, 1), rowsView(0, 0), rowsView(2, 0), rowsView(0, 3), rowsView(1, 3), rowsView(2, 4)} {
		checkIntoRefused(t, r, buffer, v, api.ErrShape)
	}
	checkIntoRefused(t, r, nil, rowsView(2, 3), api.ErrView)
	checkIntoRefused(t, r, buffer[:5], rowsView(2, 3), api.ErrView)
	checkIntoRefused(t, r, make([]uint64, api.MaxBuffer+1), rowsView(2, 3), api.ErrView)
	full := make([]uint64, api.MaxBuffer)
	if err := r.Into(full, api.View{Rows: 2, Cols: 3, Offset: api.MaxBuffer - 1, RowStep: -3, ColStep: -1}); err != api.OK {
		t.Errorf("P9: into the end of the longest buffer: %d", err)
	}
	// No rows or no columns: each is a shape of its own.
	for _, c := range []struct {
		file       string
		rows, cols int
	}{{arrayLine + "0 0\n", 0, 0}, {arrayLine + "0 3\n", 0, 3}, {headOf(0, 3, 0) + withSum(""), 3, 0}} {
		r := ended(t, c.file)
		for rows := range 4 {
			for cols := range 4 {
				v := api.View{Rows: rows, Cols: cols, RowStep: 3, ColStep: 1}
				if rows == c.rows && cols == c.cols {
					checkIntoRefused(t, r, buffer, v, api.OK)
					checkIntoRefused(t, r, nil, v, api.OK)
				} else {
					checkIntoRefused(t, r, buffer, v, api.ErrShape)
				}
			}
		}
		checkIntoRefused(t, r, make([]uint64, api.MaxBuffer+1), rowsView(c.rows, c.cols), api.ErrView)
	}
}

// TestIntoRandom asks for views of all sorts, fitting or not.
func TestIntoRandom(t *testing.T) {
	r := rand.New(rand.NewPCG(9, 2))
	numbers := []uint64{bitsOne, bitsTwo, bitsThree, signBits, infinityBits, canonicalBits}
	reader := ended(t, headOf(0, 2, 3)+withSum(payloadOf(numbers...)))
	seen := map[api.Errno]int{}
	for range 20000 {
		v := api.View{Rows: 2, Cols: 3, Offset: r.IntN(30) - 5, RowStep: r.IntN(15) - 7, ColStep: r.IntN(15) - 7}
		if r.IntN(4) == 0 {
			v.Rows, v.Cols = r.IntN(5)-1, r.IntN(5)-1
		}
		buffer := make([]uint64, r.IntN(25))
		for i := range buffer {
			buffer[i] = uint64(1000 + i)
		}
		switch {
		case !fits(v, len(buffer)):
			checkIntoRefused(t, reader, buffer, v, api.ErrView)
			seen[api.ErrView]++
		case v.Rows != 2 || v.Cols != 3:
			checkIntoRefused(t, reader, buffer, v, api.ErrShape)
			seen[api.ErrShape]++
		default:
			checkInto(t, reader, buffer, v, numbers)
			seen[api.OK]++
		}
	}
	if seen[api.OK] < 500 || seen[api.ErrView] < 500 || seen[api.ErrShape] < 500 {
		t.Errorf("too few of a sort: %v", seen)
	}
}

// TestEndEarly ends a file too early: what comes behind is not asked for.
func TestEndEarly(t *testing.T) {
	for _, file := range []string{arrayLine + "1 1\n1\n", headOf(0, 1, 1) + withSum(payloadOf(bitsOne))} {
		for n := range len(file) {
			want := api.ErrEnd
			if n == 0 {
				want = api.ErrFormat
			}
			r := abacus.NewReader()
			if err := r.Feed(file[:n]); err != api.OK {
				t.Fatalf("P7: Feed(%q) = %d", file[:n], err)
			}
			checkFailed(t, r, want)
			if err := r.Feed(file[n:]); err != want {
				t.Fatalf("P8: Feed of the rest behind End = %d, want %d", err, want)
			}
			checkFailed(t, r, want)
		}
	}
}

// TestEndWithoutFeed ends a file that was never fed, or fed nothing.
func TestEndWithoutFeed(t *testing.T) {
	checkFailed(t, abacus.NewReader(), api.ErrFormat)
	r := abacus.NewReader()
	for range 3 {
		if err := r.Feed(""); err != api.OK {
			t.Fatalf("P6: Feed of nothing = %d", err)
		}
	}
	checkFailed(t, r, api.ErrFormat)
}

func TestReadersApart(t *testing.T) {
	if a, b := abacus.NewReader(), abacus.NewReader(); a == nil || b == nil || a == b {
		t.Fatalf("P6: NewReader = %p, %p", a, b)
	}
	type fed struct {
		file string
		want verdict
	}
	var cases []fed
	for n := 1; n <= 3; n++ {
		numbers := make([]uint64, n*n)
		for i := range numbers {
			numbers[i] = bitsOne
		}
		for _, kind := range allKinds {
			file := fileOf(n, n, func(i, j int) uint64 { return bitsOne }, kind)
			cases = append(cases, fed{file, read(n, n, kind, numbers...)})
			cases = append(cases, fed{file[:len(file)-1], failsAtEnd(api.ErrEnd)})
			cases = append(cases, fed{"%" + file, verdict{}}) // fails somewhere
		}
	}
	// All are fed beside one another, and each is written at the same time once more.
	readers := make([]*abacus.Reader, len(cases))
	for i := range readers {
		readers[i] = abacus.NewReader()
	}
	for at := range 400 {
		for i, c := range cases {
			if at < len(c.file) {
				readers[i].Feed(c.file[at : at+1])
			}
		}
		w := newWriter(t, []uint64{bitsTwo}, rowsView(1, 1), at%6)
		w.Next(at)
	}
	for i, c := range cases {
		switch {
		case c.want.numbers != nil:
			checkRead(t, readers[i], c.want)
		case c.want.err != api.OK:
			checkFailed(t, readers[i], c.want.err)
		default:
			if _, err := readers[i].End(); err == api.OK {
				t.Errorf("P7: %q is read", c.file)
			}
		}
	}
}
