// Package words puts words of several widths into bytes.
package words

import "math/bits"

// Word is what can be put into bytes.
type Word interface {
	~uint8 | ~uint16 | ~uint32 | ~uint64
}

// size is how many bytes a word has.
func size[W Word]() int {
	return bits.Len64(uint64(^W(0))) / 8
}

// Append adds a word to a list of bytes, the low byte first.
func Append[W Word](list []byte, word W) []byte {
	for i := range size[W]() {
		list = append(list, byte(uint64(word)>>(8*i)))
	}
	return list
}
