package words

import (
	"bytes"
	"encoding/binary"
	"testing"
)

type named uint16

func TestAppend(t *testing.T) {
	for _, x := range []uint64{0, 1, 0x80, 0xff, 0x1234, 0xfedcba98, 0x0123456789abcdef, 1 << 63, 1<<64 - 1} {
		for _, ahead := range [][]byte{nil, []byte("ahead")} {
			check(t, Append(ahead, uint8(x)), append(bytes.Clone(ahead), byte(x)))
			check(t, Append(ahead, uint16(x)), binary.LittleEndian.AppendUint16(bytes.Clone(ahead), uint16(x)))
			check(t, Append(ahead, named(x)), binary.LittleEndian.AppendUint16(bytes.Clone(ahead), uint16(x)))
			check(t, Append(ahead, uint32(x)), binary.LittleEndian.AppendUint32(bytes.Clone(ahead), uint32(x)))
			check(t, Append(ahead, x), binary.LittleEndian.AppendUint64(bytes.Clone(ahead), x))
		}
	}
}

func TestCut(t *testing.T) {
	list := []byte{0xef, 0xcd, 0xab, 0x89, 0x67, 0x45, 0x23, 0x81, 0xff, 0x01}
	checkCut[uint8](t, list, 0xef)
	checkCut[uint16](t, list, 0xcdef)
	checkCut[named](t, list, 0xcdef)
	checkCut[uint32](t, list, 0x89abcdef)
	checkCut[uint64](t, list, 0x8123456789abcdef)
	checkCut[uint64](t, list[2:], 0x01ff8123456789ab)
	checkCut[uint16](t, list[8:], 0x01ff)
	checkCut[uint8](t, list[9:], 1)
}

// checkCut also puts the word back.
func checkCut[W Word](t *testing.T, list []byte, want W) {
	t.Helper()
	before := bytes.Clone(list)
	got, rest := Cut[W](list)
	if got != want {
		t.Errorf("the word that %x begins with: %x, want %x", list, got, want)
	}
	check(t, append(Append(nil, got), rest...), before)
	check(t, list, before)
}

func check(t *testing.T, got, want []byte) {
	t.Helper()
	if !bytes.Equal(got, want) {
		t.Errorf("%x, want %x", got, want)
	}
}
