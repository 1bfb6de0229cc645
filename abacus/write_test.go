package abacus_test

import (
	"encoding/binary"
	"encoding/hex"
	"hash/crc32"
	"math/rand/v2"
	"slices"
	"strconv"
	"strings"
	"testing"

	"abacus/abacus"
	"abacus/api"
)

const (
	bitsOne   = uint64(0x3ff0000000000000)
	bitsTwo   = uint64(0x4000000000000000)
	bitsThree = uint64(0x4008000000000000)

	firstLine = "%%MatrixMarket matrix "
)

var allKinds = []int{api.ArrayGeneral, api.ArraySymmetric, api.CoordinateGeneral, api.CoordinateSymmetric, api.RowBox, api.ColumnBox}

func isSymmetric(kind int) bool {
	return kind == api.ArraySymmetric || kind == api.CoordinateSymmetric
}

// rowsView shows the whole of a buffer, row by row.
func rowsView(rows, cols int) api.View {
	return api.View{Rows: rows, Cols: cols, RowStep: cols, ColStep: 1}
}

// written is the file that a writer gives in pieces; checks that each piece has
// the length that it must have.
func written(t *testing.T, w *abacus.Writer, piece int) string {
	t.Helper()
	text := ""
	for {
		next := w.Next(piece)
		text += next
		if len(next) > piece || len(text) > 100000 {
			t.Fatalf("P5: Next(%d) = %q", piece, next)
		}
		if len(next) < piece {
			if more := w.Next(piece); more != "" {
				t.Fatalf("P5: Next(%d) = %q, and %q behind it", piece, next, more)
			}
			return text
		}
	}
}

func newWriter(t *testing.T, buffer []uint64, v api.View, kind int) *abacus.Writer {
	t.Helper()
	w, err := abacus.NewWriter(buffer, v, kind)
	if w == nil || err != api.OK {
		t.Fatalf("P4: NewWriter(%x, %+v, %d) = %v, %d", buffer, v, kind, w, err)
	}
	return w
}

func checkRefused(t *testing.T, buffer []uint64, v api.View, kind int, want api.Errno) {
	t.Helper()
	if w, err := abacus.NewWriter(buffer, v, kind); w != nil || err != want {
		t.Errorf("P4: NewWriter(%d numbers, %+v, %d) = %v, %d, want %d", len(buffer), v, kind, w, err, want)
	}
}

func TestWriterTexts(t *testing.T) {
	document := []uint64{bitsOne, signBits, 0, bitsThree}
	wide := []uint64{0, bitsOne, bitsTwo, bitsThree, signBits, infinityBits}
	even := []uint64{bitsOne, 0, bitsTwo, 0, 0, signBits, bitsTwo, signBits, canonicalBits}
	nans := []uint64{0x7ff0000000000001, 0xfff8000000000000, 0xffffffffffffffff, canonicalBits}
	for _, c := range []struct {
		buffer []uint64
		v      api.View
		kind   int
		want   string
	}{
		{document, rowsView(2, 2), api.CoordinateGeneral, "coordinate real general\n2 2 3\n1 1 1e0\n1 2 -0\n2 2 3e0\n"},
		{wide, rowsView(2, 3), api.ArrayGeneral, "array real general\n2 3\n0\n3e0\n1e0\n-0\n2e0\ninf\n"},
		{wide, rowsView(2, 3), api.CoordinateGeneral, "coordinate real general\n2 3 5\n2 1 3e0\n1 2 1e0\n2 2 -0\n1 3 2e0\n2 3 inf\n"},
		{even, rowsView(3, 3), api.ArraySymmetric, "array real symmetric\n3 3\n1e0\n0\n2e0\n0\n-0\nnan\n"},
		{even, rowsView(3, 3), api.CoordinateSymmetric, "coordinate real symmetric\n3 3 4\n1 1 1e0\n3 1 2e0\n3 2 -0\n3 3 nan\n"},
		{nans, rowsView(2, 2), api.ArrayGeneral, "array real general\n2 2\nnan\nnan\nnan\nnan\n"},
		{nans, rowsView(2, 2), api.ArraySymmetric, "array real symmetric\n2 2\nnan\nnan\nnan\n"},
		{nans, rowsView(2, 2), api.CoordinateSymmetric, "coordinate real symmetric\n2 2 3\n1 1 nan\n2 1 nan\n2 2 nan\n"},
		{make([]uint64, 4), rowsView(2, 2), api.CoordinateGeneral, "coordinate real general\n2 2 0\n"},
		{nil, rowsView(0, 0), api.ArrayGeneral, "array real general\n0 0\n"},
		{nil, rowsView(0, 0), api.ArraySymmetric, "array real symmetric\n0 0\n"},
		{nil, rowsView(0, 0), api.CoordinateSymmetric, "coordinate real symmetric\n0 0 0\n"},
		{nil, rowsView(40, 0), api.ArrayGeneral, "array real general\n40 0\n"},
		{nil, rowsView(0, 40), api.CoordinateGeneral, "coordinate real general\n0 40 0\n"},
	} {
		for _, piece := range []int{1, 2, 13, 1000} {
			if got := written(t, newWriter(t, c.buffer, c.v, c.kind), piece); got != firstLine+c.want {
				t.Errorf("P4: %x, %+v, %d: %q, want %q", c.buffer, c.v, c.kind, got, firstLine+c.want)
			}
		}
	}
}

func TestWriterContainers(t *testing.T) {
	buffer := []uint64{bitsOne, 0xfff0000000000001, signBits, 0x0123456789abcdef, 0x7ff0000000000000, 0}
	const (
		one, nan, minus = "000000000000f03f", "000000000000f87f", "0000000000000080"
		long, inf, zero = "efcdab8967452301", "000000000000f07f", "0000000000000000"
	)
	for _, c := range []struct {
		buffer []uint64
		v      api.View
		kind   int
		want   string
	}{
		{nil, rowsView(0, 0), api.RowBox, "41424143" + "0100" + "00000000" + "5b511e39" + "00000000"},
		{nil, rowsView(0, 0), api.ColumnBox, "41424143" + "0101" + "00000000" + "eb787e04" + "00000000"},
		{buffer, rowsView(2, 3), api.RowBox, "41424143" + "0100" + "02000300" + "13ca3ab8" + one + nan + minus + long + inf + zero + "0a0e386b"},
		{buffer, rowsView(2, 3), api.ColumnBox, "41424143" + "0101" + "02000300" + "a3e35a85" + one + long + nan + inf + minus + zero + "fbd6f92b"},
		{nil, rowsView(0, 40), api.RowBox, "41424143" + "0100" + "00002800" + "f1ff4364" + "00000000"},
		{nil, rowsView(40, 0), api.RowBox, "41424143" + "0100" + "28000000" + "8ad6985c" + "00000000"},
	} {
		for _, piece := range []int{1, 5, 18, 1000} {
			if got := hex.EncodeToString([]byte(written(t, newWriter(t, c.buffer, c.v, c.kind), piece))); got != c.want {
				t.Errorf("P4: %x, %+v, %d: %s, want %s", c.buffer, c.v, c.kind, got, c.want)
			}
		}
	}
}

// fileOf is the file of a kind, as the document tells it.
func fileOf(rows, cols int, at func(i, j int) uint64, kind int) string {
	if kind == api.RowBox || kind == api.ColumnBox {
		return containerOf(rows, cols, at, kind == api.ColumnBox)
	}
	sorts := []string{"array real general", "array real symmetric", "coordinate real general", "coordinate real symmetric"}
	lines := []string{}
	for j := range cols {
		for i := range rows {
			switch text := abacus.Print(at(i, j)); {
			case i < j && isSymmetric(kind):
			case kind < api.CoordinateGeneral:
				lines = append(lines, text)
			case text != "0":
				lines = append(lines, strconv.Itoa(i+1)+" "+strconv.Itoa(j+1)+" "+text)
			}
		}
	}
	sizes := strconv.Itoa(rows) + " " + strconv.Itoa(cols)
	if kind >= api.CoordinateGeneral {
		sizes += " " + strconv.Itoa(len(lines))
	}
	return strings.Join(append([]string{firstLine + sorts[kind], sizes}, lines...), "\n") + "\n"
}

func containerOf(rows, cols int, at func(i, j int) uint64, columns bool) string {
	order, outer, inner := byte(0), rows, cols
	if columns {
		order, outer, inner = 1, cols, rows
	}
	head := []byte{'A', 'B', 'A', 'C', 1, order, byte(rows), 0, byte(cols), 0}
	head = binary.LittleEndian.AppendUint32(head, crc32.ChecksumIEEE(head))
	payload := []byte{}
	for x := range outer {
		for y := range inner {
			i, j := x, y
			if columns {
				i, j = y, x
			}
			bits := at(i, j)
			if bits&^signBits > infinityBits {
				bits = canonicalBits
			}
			payload = binary.LittleEndian.AppendUint64(payload, bits)
		}
	}
	return string(head) + string(binary.LittleEndian.AppendUint32(payload, crc32.ChecksumIEEE(payload)))
}

// randomNumber is often one of the numbers that are not like others.
func randomNumber(r *rand.Rand) uint64 {
	few := []uint64{0, 0, 0, signBits, bitsOne, infinityBits, infinityBits | signBits, canonicalBits, 1, 1<<64 - 1}
	if r.IntN(2) == 0 {
		return few[r.IntN(len(few))]
	}
	return r.Uint64()
}

func randomSide(r *rand.Rand) int {
	return []int{0, 1, 2, 3, 5, 9, api.MaxSide}[min(r.IntN(60)/8, 6)]
}

// randomView is a view that fits a buffer, with steps of all signs, and that buffer.
func randomView(r *rand.Rand, rows, cols int) ([]uint64, api.View) {
	inner, gap := 1+r.IntN(3), r.IntN(4)
	v := api.View{Rows: rows, Cols: cols, ColStep: inner, RowStep: inner*max(cols, 1) + gap}
	if r.IntN(2) == 0 {
		v.RowStep, v.ColStep = inner, inner*max(rows, 1)+gap
	}
	most := v.RowStep*max(rows-1, 0) + v.ColStep*max(cols-1, 0)
	if r.IntN(2) == 0 {
		v.Offset += v.RowStep * max(rows-1, 0)
		v.RowStep = -v.RowStep
	}
	if r.IntN(2) == 0 {
		v.Offset += v.ColStep * max(cols-1, 0)
		v.ColStep = -v.ColStep
	}
	least := r.IntN(3)
	v.Offset += least
	buffer := make([]uint64, least+most+1+r.IntN(3))
	for i := range buffer {
		buffer[i] = randomNumber(r)
	}
	return buffer, v
}

func placeOf(v api.View, i, j int) int {
	return v.Offset + i*v.RowStep + j*v.ColStep
}

func TestWriterRandom(t *testing.T) {
	r := rand.New(rand.NewPCG(5, 1))
	for range 80 {
		for _, kind := range allKinds {
			rows, cols := randomSide(r), randomSide(r)
			if isSymmetric(kind) {
				cols = rows
			}
			buffer, v := randomView(r, rows, cols)
			at := func(i, j int) uint64 { return buffer[placeOf(v, i, j)] }
			if isSymmetric(kind) {
				for i := range rows {
					for j := range i {
						buffer[placeOf(v, j, i)] = at(i, j)
					}
				}
			}
			before := slices.Clone(buffer)
			w := newWriter(t, buffer, v, kind)
			if !slices.Equal(buffer, before) {
				t.Fatalf("P4: NewWriter(.., %+v, %d) has changed its buffer", v, kind)
			}
			want := fileOf(rows, cols, at, kind)
			clear(buffer)
			if got := written(t, w, 1+r.IntN(100)); got != want {
				t.Fatalf("P4: %x, %+v, %d: %q, want %q", before, v, kind, got, want)
			}
		}
	}
}

func TestWriterErrorsInOrder(t *testing.T) {
	buffer := []uint64{0, 1, 2, 3, 4, 5, 6, 7, 8}
	over := api.View{Rows: 2, Cols: 5, RowStep: 5, ColStep: 1} // no fit, not square, not symmetric
	for _, kind := range append([]int{-1, 6, -1 << 63, 1<<63 - 1}, allKinds...) {
		checkRefused(t, buffer, over, kind, api.ErrView)
	}
	for _, kind := range []int{-1 << 63, -2, -1, 6, 7, 255, 256, 1 << 32, 1<<32 + 1, 1<<63 - 1} {
		checkRefused(t, buffer, rowsView(2, 3), kind, api.ErrKind)
		checkRefused(t, buffer, rowsView(3, 3), kind, api.ErrKind)
		checkRefused(t, nil, rowsView(0, 0), kind, api.ErrKind)
	}
	for _, kind := range []int{api.ArraySymmetric, api.CoordinateSymmetric} {
		for _, v := range []api.View{rowsView(2, 3), rowsView(3, 2), rowsView(0, 1), rowsView(1, 0), rowsView(0, 40), rowsView(1, 9)} {
			checkRefused(t, buffer, v, kind, api.ErrShape)
		}
		checkRefused(t, buffer, rowsView(2, 2), kind, api.ErrSymmetric)
		checkRefused(t, buffer, rowsView(3, 3), kind, api.ErrSymmetric)
		newWriter(t, buffer, rowsView(1, 1), kind)
		newWriter(t, buffer, rowsView(0, 0), kind)
	}
}

func TestWriterSymmetric(t *testing.T) {
	for _, c := range []struct {
		above, below uint64
		want         api.Errno
	}{
		{0, 0, api.OK}, {0, signBits, api.ErrSymmetric}, {signBits, 0, api.ErrSymmetric}, {signBits, signBits, api.OK},
		{bitsOne, bitsOne + 1, api.ErrSymmetric}, {bitsOne, bitsOne | signBits, api.ErrSymmetric},
		{canonicalBits, 1<<64 - 1, api.OK}, {infinityBits + 1, infinityBits + 2, api.OK}, {infinityBits | signBits | 1, canonicalBits, api.OK},
		{canonicalBits, infinityBits, api.ErrSymmetric}, {canonicalBits, 0, api.ErrSymmetric}, {infinityBits, infinityBits | signBits, api.ErrSymmetric},
	} {
		for _, kind := range []int{api.ArraySymmetric, api.CoordinateSymmetric} {
			// Each pair of places beside one another, in matrices of several sizes.
			for _, n := range []int{2, 3, api.MaxSide} {
				for _, p := range [][2]int{{0, 1}, {0, n - 1}, {n - 2, n - 1}} {
					buffer := make([]uint64, n*n)
					buffer[p[0]*n+p[1]], buffer[p[1]*n+p[0]] = c.above, c.below
					w, err := abacus.NewWriter(buffer, rowsView(n, n), kind)
					if err != c.want || (w == nil) != (err != api.OK) {
						t.Errorf("P4: %x above and %x below at %v: %v, %d, want %d", c.above, c.below, p, w, err, c.want)
					}
				}
			}
		}
	}
	// Other kinds ask for nothing of the sort.
	for _, kind := range []int{api.ArrayGeneral, api.CoordinateGeneral, api.RowBox, api.ColumnBox} {
		newWriter(t, []uint64{0, 1, 2, 3}, rowsView(2, 2), kind)
	}
}

func TestNext(t *testing.T) {
	want := fileOf(1, 2, func(i, j int) uint64 { return bitsOne }, api.ArrayGeneral)
	w := newWriter(t, []uint64{bitsOne, bitsOne}, rowsView(1, 2), api.ArrayGeneral)
	got := ""
	for _, most := range []int{0, -1, 1, -1 << 63, 7, 0, 20} {
		next := w.Next(most)
		if len(next) != max(most, 0) {
			t.Errorf("P5: Next(%d) = %q", most, next)
		}
		got += next
	}
	got += w.Next(1<<63 - 1)
	if got != want {
		t.Errorf("P5: %q, want %q", got, want)
	}
	for _, most := range []int{-1, 0, 1, 1000, 1<<63 - 1} {
		if next := w.Next(most); next != "" {
			t.Errorf("P5: Next(%d) behind the end = %q", most, next)
		}
	}
	// All that is left, to the byte.
	w = newWriter(t, []uint64{bitsOne, bitsOne}, rowsView(1, 2), api.ArrayGeneral)
	if next, more := w.Next(len(want)), w.Next(1); next != want || more != "" {
		t.Errorf("P5: Next(%d) = %q, and %q behind it", len(want), next, more)
	}
}

func TestWriterKeepsNoBuffer(t *testing.T) {
	for _, kind := range allKinds {
		buffer := []uint64{bitsOne, bitsTwo, bitsTwo, bitsThree}
		before := slices.Clone(buffer)
		want := fileOf(2, 2, func(i, j int) uint64 { return before[2*i+j] }, kind)
		w := newWriter(t, buffer, rowsView(2, 2), kind)
		got := ""
		for i := range len(want) {
			buffer[i%4] = uint64(i)
			got += w.Next(1)
		}
		if got != want || w.Next(1) != "" {
			t.Errorf("P4: kind %d: %q, want %q", kind, got, want)
		}
	}
}

func TestWritersApart(t *testing.T) {
	buffer := []uint64{bitsOne, bitsTwo, bitsTwo, bitsThree}
	var writers []*abacus.Writer
	var want, got []string
	for _, kind := range allKinds {
		for n := 1; n <= 2; n++ {
			writers = append(writers, newWriter(t, buffer, rowsView(n, n), kind))
			want = append(want, fileOf(n, n, func(i, j int) uint64 { return buffer[n*i+j] }, kind))
			got = append(got, "")
		}
	}
	for range 200 {
		for i, w := range writers {
			got[i] += w.Next(1 + i%3)
		}
	}
	if !slices.Equal(got, want) {
		t.Errorf("P4: %q, want %q", got, want)
	}
}
