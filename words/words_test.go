package words

import (
	"bytes"
	"encoding/binary"
	"testing"
)

type named uint16

func TestAppend(t *testing.T) {
	for _, x := range []uint64{0, 1, 0x80, 0xff, 0x1234, 0xfedcba98, 0x0123456789abcdef, 1 << 63, 1<<64 - 1} {
		for _, ahead := range [][]byte{nil, []byte("ahead")} {
			check(t, Append(ahead, uint8(x)), append(bytes.Clone(ahead), byte(x)))
			check(t, Append(ahead, uint16(x)), binary.LittleEndian.AppendUint16(bytes.Clone(ahead), uint16(x)))
			check(t, Append(ahead, named(x)), binary.LittleEndian.AppendUint16(bytes.Clone(ahead), uint16(x)))
			check(t, Append(ahead, uint32(x)), binary.LittleEndian.AppendUint32(bytes.Clone(ahead), uint32(x)))
			check(t, Append(ahead, x), binary.LittleEndian.AppendUint64(bytes.Clone(ahead), x))
		}
	}
}

func check(t *testing.T, got, want []byte) {
	t.Helper()
	if !bytes.Equal(got, want) {
		t.Errorf("%x, want %x", got, want)
	}
}
