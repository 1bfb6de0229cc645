package abacus_test

import (
	"encoding/binary"
	"hash/crc32"
	"math/rand/v2"
	"strings"
	"testing"

	"abacus/abacus"
	"abacus/api"
)

// withSum is bytes and their sum.
func withSum(bytes string) string {
	return string(binary.LittleEndian.AppendUint32([]byte(bytes), crc32.ChecksumIEEE([]byte(bytes))))
}

// headOf is the head of a container, with its sum.
func headOf(order byte, rows, cols uint16) string {
	head := append([]byte("ABAC\x01"), order)
	head = binary.LittleEndian.AppendUint16(head, rows)
	return withSum(string(binary.LittleEndian.AppendUint16(head, cols)))
}

func payloadOf(numbers ...uint64) string {
	var bytes []byte
	for _, bits := range numbers {
		bytes = binary.LittleEndian.AppendUint64(bytes, bits)
	}
	return string(bytes)
}

// turned is a text of which one bit, counted from bit 0 of the first byte on, is turned.
func turned(text string, bit int) string {
	bytes := []byte(text)
	bytes[bit/8] ^= 1 << (bit % 8)
	return string(bytes)
}

func TestReadContainers(t *testing.T) {
	const long = 0x0123456789abcdef
	for _, c := range []struct {
		file string
		want verdict
	}{
		{headOf(0, 0, 0) + withSum(""), read(0, 0, api.RowBox)},
		{headOf(1, 0, 0) + withSum(""), read(0, 0, api.ColumnBox)},
		{headOf(0, 0, 40) + withSum(""), read(0, 40, api.RowBox)},
		{headOf(1, 40, 0) + withSum(""), read(40, 0, api.ColumnBox)},
		{headOf(0, 1, 1) + withSum(payloadOf(long)), read(1, 1, api.RowBox, long)},
		{headOf(0, 2, 3) + withSum(payloadOf(1, 2, 3, 4, 5, 6)), read(2, 3, api.RowBox, 1, 2, 3, 4, 5, 6)},
		{headOf(1, 2, 3) + withSum(payloadOf(1, 2, 3, 4, 5, 6)), read(2, 3, api.ColumnBox, 1, 3, 5, 2, 4, 6)},
		{headOf(1, 3, 1) + withSum(payloadOf(canonicalBits, infinityBits, infinityBits|signBits)), read(3, 1, api.ColumnBox, canonicalBits, infinityBits, infinityBits|signBits)},
		{headOf(0, 40, 40) + withSum(payloadOf(make([]uint64, 1600)...)), read(40, 40, api.RowBox, make([]uint64, 1600)...)},
	} {
		checkFile(t, c.file, c.want)
		// Each byte behind it is one too many, and each byte that is missing is one too few.
		for _, more := range []string{"\x00", "\n", "A", "%", c.file} {
			checkFile(t, c.file+more, verdict{err: api.ErrFormat, at: len(c.file) + 1})
		}
		for n := 1; n < len(c.file); n = min(n+1+n/50, max(len(c.file)-3, n+1)) {
			checkFile(t, c.file[:n], failsAtEnd(api.ErrEnd))
		}
	}
}

func TestReadContainerBeginning(t *testing.T) {
	begin := "ABAC\x01\x00"
	for at := 1; at < 6; at++ {
		for b := range 256 {
			file := begin[:at] + string([]byte{byte(b)})
			if b == int(begin[at]) || at == 5 && b == 1 {
				checkFile(t, file, failsAtEnd(api.ErrEnd))
				continue
			}
			checkFile(t, file, failsAt(file, api.ErrFormat))
			// Whatever comes behind it.
			checkFile(t, withSum(file+begin[at+1:]+"\x00\x00\x00\x00")+withSum(""), failsAt(file, api.ErrFormat))
		}
	}
}

func TestReadContainerHead(t *testing.T) {
	for _, order := range []byte{0, 1} {
		for _, c := range []struct {
			rows, cols uint16
			want       api.Errno
		}{
			{0, 0, api.OK}, {40, 40, api.OK}, {41, 0, api.ErrTooLarge}, {0, 41, api.ErrTooLarge}, {41, 41, api.ErrTooLarge}, {256, 0, api.ErrTooLarge}, {0, 256, api.ErrTooLarge},
			{65535, 65535, api.ErrTooLarge}, {65535, 1, api.ErrTooLarge}, {1, 40, api.OK}, {40, 1, api.OK}, {0x2801, 1, api.ErrTooLarge},
		} {
			head := headOf(order, c.rows, c.cols)
			want := failsAt(head, c.want)
			if c.want == api.OK {
				want = failsAtEnd(api.ErrEnd)
			}
			checkFile(t, head, want)
			// A wrong sum, ahead of too many rows and columns.
			for bit := 48; bit < 8*len(head); bit++ {
				spoilt := turned(head, bit)
				checkFile(t, spoilt, failsAt(head, api.ErrSum))
				checkFile(t, spoilt[:len(head)-1], failsAtEnd(api.ErrEnd))
			}
		}
	}
	// The sum has its low byte first, and all of its bits turned.
	checkFile(t, "ABAC\x01\x00\x00\x00\x00\x00\x5b\x51\x1e\x39\x00\x00\x00\x00", read(0, 0, api.RowBox))
	for _, sum := range []string{"\x39\x1e\x51\x5b", "\xa4\xae\xe1\xc6", "\x00\x00\x00\x00"} {
		file := "ABAC\x01\x00\x00\x00\x00\x00" + sum
		checkFile(t, file, failsAt(file, api.ErrSum))
	}
}

func TestReadContainerPayload(t *testing.T) {
	other := []uint64{infinityBits + 1, canonicalBits + 1, canonicalBits | signBits, infinityBits | signBits | 1, 1<<64 - 1, 1<<63 - 1}
	for _, order := range []byte{0, 1} {
		head := headOf(order, 1, 3)
		for _, nan := range other {
			for _, numbers := range [][]uint64{{nan, 1, 2}, {1, nan, 2}, {1, 2, nan}, {nan, nan, nan}, {canonicalBits, canonicalBits, nan}} {
				file := head + withSum(payloadOf(numbers...))
				checkFile(t, file, failsAt(file, api.ErrNumber))
				checkFile(t, file[:len(file)-1], failsAtEnd(api.ErrEnd))
				// A wrong sum, ahead of that.
				checkFile(t, turned(file, 8*len(file)-1), failsAt(file, api.ErrSum))
				checkFile(t, turned(file, 8*len(head)), failsAt(file, api.ErrSum))
				checkFile(t, file+"\n", failsAt(file, api.ErrNumber))
			}
		}
		file := head + withSum(payloadOf(bitsOne, bitsTwo, canonicalBits))
		for bit := 8 * len(head); bit < 8*len(file); bit++ {
			checkFile(t, turned(file, bit), failsAt(file, api.ErrSum))
		}
		// A sum of no bytes.
		for bit := range 32 {
			empty := turned(headOf(order, 0, 3)+withSum(""), 8*14+bit)
			checkFile(t, empty, failsAt(empty, api.ErrSum))
		}
	}
}

// TestReadSpoilt turns bits within rows of 32, wherever the row stands.
func TestReadSpoilt(t *testing.T) {
	r := rand.New(rand.NewPCG(9, 1))
	files := []string{
		headOf(0, 0, 0) + withSum(""),
		headOf(1, 1, 1) + withSum(payloadOf(0)),
		headOf(1, 2, 2) + withSum(payloadOf(bitsOne, bitsTwo, canonicalBits, signBits)),
		headOf(0, 3, 5) + withSum(payloadOf(r.Uint64()>>2, 2, 3, 4, 5, 6, 7, 8, 9, r.Uint64()>>2, 11, 12, 13, 14, 0)),
	}
	for _, file := range files {
		for at := 0; at < 8*len(file); at++ {
			row := min(32, 8*len(file)-at)
			for n := range 24 {
				pattern := r.Uint32()
				switch n {
				case 0:
					pattern = 1
				case 1:
					pattern = 1<<32 - 1
				case 2:
					pattern = 1 | 1<<31
				case 3:
					pattern &= r.Uint32() & r.Uint32()
				}
				checkSpoilt(t, file, at, pattern&(1<<row-1)|1)
			}
		}
	}
}

// checkSpoilt turns those bits, from one on, that are in a pattern.
func checkSpoilt(t *testing.T, file string, from int, pattern uint32) {
	t.Helper()
	spoilt := []byte(file)
	for i := range 32 {
		if pattern>>i&1 == 1 {
			spoilt[(from+i)/8] ^= 1 << ((from + i) % 8)
		}
	}
	reader := abacus.NewReader()
	fed := reader.Feed(string(spoilt))
	shape, err := reader.End()
	if err == api.OK || shape != (api.Shape{}) || fed != api.OK && fed != err {
		t.Fatalf("P10: of %q, with %b turned from bit %d on: %d, %+v, %d", file, pattern, from, fed, shape, err)
	}
	reader = abacus.NewReader()
	for i := range spoilt {
		reader.Feed(string(spoilt[i : i+1]))
	}
	if again := reader.Feed(""); again != fed {
		t.Fatalf("P6: of %q, with %b turned from bit %d on: %d at once, %d byte by byte", file, pattern, from, fed, again)
	}
}

func TestReadContainerFarTooLong(t *testing.T) {
	file := headOf(0, 1, 1) + withSum(payloadOf(bitsOne))
	checkFile(t, file+strings.Repeat("\x00", 5000), verdict{err: api.ErrFormat, at: len(file) + 1})
}
