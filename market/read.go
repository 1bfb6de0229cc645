package market

import (
	"slices"
	"strings"

	"abacus/api"
	"abacus/kinds"
	"abacus/matrix"
	"abacus/number"
)

// state takes the next line and answers the state behind it.
type state func(l line) (state, api.Errno)

// Reader reads a text.
type Reader struct {
	state  state
	bytes  []byte // of a line that has not ended
	kind   int
	matrix matrix.Matrix
	sized  bool           // the sizes have come
	free   []matrix.Place // where entries may still stand, in the order of the kind
	left   int            // how many entries are still to come
}

// NewReader is a reader that waits for the first byte, which is that of the mark.
func NewReader() *Reader {
	r := &Reader{}
	r.state = r.first
	return r
}

// Take takes the next byte. It is not called again behind an error.
func (r *Reader) Take(b byte) api.Errno {
	switch {
	case b == '\n':
		return r.endLine()
	case len(r.bytes) == api.MaxLine:
		return api.ErrLine
	}
	r.bytes = append(r.bytes, b)
	return api.OK
}

// endLine hands a line to the state, unless it has no words: such a line may stand
// anywhere behind the first, and the first one has some.
func (r *Reader) endLine() api.Errno {
	l := split(string(r.bytes))
	r.bytes = r.bytes[:0]
	if len(l.words) == 0 {
		return api.OK
	}
	next, err := r.state(l)
	r.state = next
	return err
}

// End is the matrix and the kind of the file, if it ends here.
func (r *Reader) End() (matrix.Matrix, int, api.Errno) {
	if len(r.bytes) > 0 || !r.sized || r.left > 0 {
		return matrix.Matrix{}, 0, api.ErrEnd
	}
	return r.matrix, r.kind, api.OK
}

// first takes the first line.
func (r *Reader) first(l line) (state, api.Errno) {
	for _, kind := range [...]int{api.ArrayGeneral, api.ArraySymmetric, api.CoordinateGeneral, api.CoordinateSymmetric} {
		if slices.Equal(l.words, first(kind)) {
			r.kind = kind
			return r.sizes, api.OK
		}
	}
	return nil, api.ErrFormat
}

// sizes takes comments and the sizes.
func (r *Reader) sizes(l line) (state, api.Errno) {
	if l.comment {
		return r.sizes, api.OK
	}
	if kinds.Coordinate(r.kind) {
		return r.coordinateSizes(l)
	}
	return r.arraySizes(l)
}

func (r *Reader) arraySizes(l line) (state, api.Errno) {
	sizes, ok := wholes(l.words)
	if !ok || len(sizes) != 2 {
		return nil, api.ErrFormat
	}
	err := r.open(sizes[0], sizes[1])
	r.left = len(r.free)
	return r.arrayEntry, err
}

func (r *Reader) coordinateSizes(l line) (state, api.Errno) {
	sizes, ok := wholes(l.words)
	if !ok || len(sizes) != 3 {
		return nil, api.ErrFormat
	}
	if err := r.open(sizes[0], sizes[1]); err != api.OK {
		return nil, err
	}
	r.left = sizes[2]
	if r.left > len(r.free) {
		return nil, api.ErrCount
	}
	return r.coordinateEntry, api.OK
}

// open makes the matrix, all of its places free.
func (r *Reader) open(rows, cols int) api.Errno {
	switch {
	case rows > api.MaxSide || cols > api.MaxSide:
		return api.ErrTooLarge
	case kinds.Symmetric(r.kind) && rows != cols:
		return api.ErrShape
	}
	r.sized = true
	r.matrix = matrix.New(rows, cols)
	r.free = slices.Collect(r.matrix.Places(r.kind))
	return api.OK
}

// arrayEntry takes a number, whose place is the next one.
func (r *Reader) arrayEntry(l line) (state, api.Errno) {
	switch {
	case l.comment || len(l.words) != 1:
		return nil, api.ErrFormat
	case r.left == 0:
		return nil, api.ErrCount
	}
	return r.arrayEntry, r.put(0, l.words[0])
}

// coordinateEntry takes a row, a column and a number.
func (r *Reader) coordinateEntry(l line) (state, api.Errno) {
	if l.comment || len(l.words) != 3 {
		return nil, api.ErrFormat
	}
	at, ok := wholes(l.words[:2])
	switch {
	case !ok:
		return nil, api.ErrFormat
	case r.left == 0:
		return nil, api.ErrCount
	}
	i := slices.Index(r.free, matrix.Place{Row: at[0] - 1, Col: at[1] - 1})
	if i < 0 {
		return nil, api.ErrPlace
	}
	return r.coordinateEntry, r.put(i, l.words[2])
}

// put sets the number that a text tells at one of the free places.
func (r *Reader) put(i int, text string) api.Errno {
	bits, err := number.Scan(text)
	if err != api.OK {
		return err
	}
	p := r.free[i]
	r.matrix.Set(p, bits)
	if kinds.Symmetric(r.kind) {
		r.matrix.Set(p.Mirrored(), bits)
	}
	r.free = slices.Delete(r.free, i, i+1)
	r.left--
	return api.OK
}

// line is a line without the byte that ends it.
type line struct {
	words   []string
	comment bool
}

func split(text string) line {
	return line{strings.FieldsFunc(text, isBlank), strings.HasPrefix(text, "%")}
}

// isBlank holds for these three alone: what else is called white space elsewhere is
// part of a word here.
func isBlank(r rune) bool {
	return r == ' ' || r == '\t' || r == '\r'
}

// wholes is what words of digits tell; false if one of them is none.
func wholes(words []string) ([]int, bool) {
	var list []int
	for _, word := range words {
		n, ok := whole(word)
		if !ok {
			return nil, false
		}
		list = append(list, n)
	}
	return list, true
}

func whole(word string) (int, bool) {
	const maxDigits = 9
	if len(word) > maxDigits {
		return 0, false
	}
	n := 0
	for i := range len(word) {
		if word[i] < '0' || word[i] > '9' {
			return 0, false
		}
		n = n*10 + int(word[i]-'0')
	}
	return n, true
}
