// Package words puts words of several widths into bytes, and takes them from bytes.
package words

import "math/bits"

// Word is what can be put into bytes and taken from them.
type Word interface {
	~uint8 | ~uint16 | ~uint32 | ~uint64
}

// size is how many bytes a word has.
func size[W Word]() int {
	return bits.Len64(uint64(^W(0))) / 8
}

// Append adds a word to a list of bytes, the low byte first.
func Append[W Word](list []byte, word W) []byte {
	for i := range size[W]() {
		list = append(list, byte(uint64(word)>>(8*i)))
	}
	return list
}

// Cut takes a word off the beginning of a list that has as many bytes, the low byte
// first, and answers what is behind it as well.
func Cut[W Word](list []byte) (word W, rest []byte) {
	n := size[W]()
	for i := range n {
		word |= W(list[i]) << (8 * i)
	}
	return word, list[n:]
}
