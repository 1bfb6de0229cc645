package abacus

import (
	"abacus/api"
	"abacus/box"
	"abacus/kinds"
	"abacus/market"
	"abacus/view"
)

// write is the whole file of a kind. It is made ahead of the first Next, as the
// buffer may be written over by then.
func write(buffer []uint64, v api.View, kind int) (string, api.Errno) {
	switch {
	case !view.Fits(v, len(buffer)):
		return "", api.ErrView
	case !kinds.Known(kind):
		return "", api.ErrKind
	case kinds.Symmetric(kind) && v.Rows != v.Cols:
		return "", api.ErrShape
	}
	m := view.Copy(buffer, v)
	switch {
	case kinds.Symmetric(kind) && !m.Symmetric():
		return "", api.ErrSymmetric
	case kinds.Container(kind):
		return box.Write(m, kind), api.OK
	}
	return market.Write(m, kind), api.OK
}
