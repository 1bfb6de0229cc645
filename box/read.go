package box

import (
	"abacus/api"
	"abacus/matrix"
	"abacus/number"
	"abacus/words"
)

const (
	headBytes   = len(mark) + 1 + 2 + 2
	numberBytes = 8
	sumBytes    = 4
)

// state takes the next byte and answers the state behind it.
type state func(b byte) (state, api.Errno)

// Reader reads a container.
type Reader struct {
	state  state
	held   []byte // what has come of the head or the payload, with its sum
	kind   int
	matrix matrix.Matrix
	whole  bool // no byte is missing
}

// NewReader is a reader that waits for the first byte.
func NewReader() *Reader {
	r := &Reader{}
	r.state = r.begin
	return r
}

// Take takes the next byte. It is not called again behind an error.
func (r *Reader) Take(b byte) api.Errno {
	next, err := r.state(b)
	r.state = next
	return err
}

// End is the matrix and the kind of the file, if it ends here.
func (r *Reader) End() (matrix.Matrix, int, api.Errno) {
	if !r.whole {
		return matrix.Matrix{}, 0, api.ErrEnd
	}
	return r.matrix, r.kind, api.OK
}

// begin takes the mark and the order, of which each byte is looked at as it comes.
func (r *Reader) begin(b byte) (state, api.Errno) {
	at := len(r.held)
	r.held = append(r.held, b)
	switch {
	case at == len(mark) && b <= columnByColumn:
		return r.head, api.OK
	case at < len(mark) && b == mark[at]:
		return r.begin, api.OK
	}
	return nil, api.ErrFormat
}

// head takes the rest of the head, and its sum.
func (r *Reader) head(b byte) (state, api.Errno) {
	r.held = append(r.held, b)
	if len(r.held) < headBytes+sumBytes {
		return r.head, api.OK
	}
	head, right := cutSum(r.held)
	if !right {
		return nil, api.ErrSum
	}
	order, rest := words.Cut[uint8](head[len(mark):])
	rows, rest := words.Cut[uint16](rest)
	cols, _ := words.Cut[uint16](rest)
	if rows > api.MaxSide || cols > api.MaxSide {
		return nil, api.ErrTooLarge
	}
	r.kind = kindOf(order)
	r.matrix = matrix.New(int(rows), int(cols))
	r.held = nil
	return r.payload, api.OK
}

func kindOf(order uint8) int {
	if order == columnByColumn {
		return api.ColumnBox
	}
	return api.RowBox
}

// payload takes the bytes of the numbers, and their sum.
func (r *Reader) payload(b byte) (state, api.Errno) {
	r.held = append(r.held, b)
	if len(r.held) < numberBytes*r.matrix.Rows*r.matrix.Cols+sumBytes {
		return r.payload, api.OK
	}
	payload, right := cutSum(r.held)
	if !right {
		return nil, api.ErrSum
	}
	if err := r.fill(payload); err != api.OK {
		return nil, err
	}
	r.held, r.whole = nil, true
	return r.behind, api.OK
}

// fill sets the numbers of the matrix.
func (r *Reader) fill(payload []byte) api.Errno {
	var bits uint64
	for p := range r.matrix.Places(r.kind) {
		bits, payload = words.Cut[uint64](payload)
		if bits != number.Canonical(bits) {
			return api.ErrNumber
		}
		r.matrix.Set(p, bits)
	}
	return api.OK
}

// behind takes a byte behind the last.
func (r *Reader) behind(byte) (state, api.Errno) {
	return nil, api.ErrFormat
}

// cutSum is the bytes ahead of the sum that they end with, and whether that is right.
func cutSum(bytes []byte) ([]byte, bool) {
	n := len(bytes) - sumBytes
	told, _ := words.Cut[sum](bytes[n:])
	return bytes[:n], told == sumOf(bytes[:n])
}
