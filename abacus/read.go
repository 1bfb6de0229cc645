package abacus

import (
	"abacus/api"
	"abacus/box"
	"abacus/market"
	"abacus/matrix"
)

// file is a file that is being read, whichever its sort. Behind an error it takes
// no more.
type file interface {
	Take(b byte) api.Errno
	End() (m matrix.Matrix, kind int, err api.Errno)
}

// fileOf is the file that begins with such a byte, which it has not taken yet; nil
// if there is none.
func fileOf(first byte) file {
	switch first {
	case '%':
		return market.NewReader()
	case 'A':
		return box.NewReader()
	}
	return nil
}

// state takes the next piece and answers the state behind it.
type state func(piece string) (state, api.Errno)

// begin is the state ahead of the first byte.
func (r *Reader) begin(piece string) (state, api.Errno) {
	if piece == "" {
		return r.begin, api.OK
	}
	r.file = fileOf(piece[0])
	if r.file == nil {
		return r.fail(api.ErrFormat)
	}
	return r.within(piece)
}

// within is the state behind the first byte.
func (r *Reader) within(piece string) (state, api.Errno) {
	for i := range len(piece) {
		if err := r.file.Take(piece[i]); err != api.OK {
			return r.fail(err)
		}
	}
	return r.within, api.OK
}

// failed is the state behind an error of the file.
func (r *Reader) failed(string) (state, api.Errno) {
	return r.failed, r.err
}

// ended is the state behind an end that was no error.
func (r *Reader) ended(string) (state, api.Errno) {
	return r.ended, api.ErrEnd
}

// fail keeps an error, and nothing else of the file.
func (r *Reader) fail(err api.Errno) (state, api.Errno) {
	r.file, r.err = nil, err
	return r.failed, err
}

// finish ends the file and answers the state behind that.
func (r *Reader) finish() (state, api.Errno) {
	if r.file == nil {
		return r.fail(api.ErrFormat)
	}
	m, kind, err := r.file.End()
	if err != api.OK {
		return r.fail(err)
	}
	r.file, r.whole = nil, true
	r.matrix, r.kind = m, kind
	return r.ended, api.OK
}
