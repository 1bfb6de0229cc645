// Package natural reckons with natural numbers of any length.
//
// A number is a list of words, the lowest first, of which the last is not 0;
// the number 0 has no words. No function changes a list that it is given, and
// every answer is new memory.
package natural

import (
	"cmp"
	"math/bits"
	"slices"
)

// Word is what numbers are made of. Words of 64 bits are left out, as the
// product of two words and two carries must go into a uint64.
type Word interface {
	~uint8 | ~uint16 | ~uint32
}

func width[W Word]() int {
	return bits.Len64(uint64(^W(0)))
}

// trim drops the noughts at the high end, so that every number has one list only.
func trim[W Word](a []W) []W {
	for len(a) > 0 && a[len(a)-1] == 0 {
		a = a[:len(a)-1]
	}
	return a
}

// Of is x as a list of words.
func Of[W Word](x uint64) []W {
	var words []W
	for ; x != 0; x >>= width[W]() {
		words = append(words, W(x))
	}
	return words
}

// Compare is -1, 0 or 1, as a is below b, the same, or above it.
func Compare[W Word](a, b []W) int {
	if len(a) != len(b) {
		return cmp.Compare(len(a), len(b))
	}
	for i := len(a) - 1; i >= 0; i-- {
		if a[i] != b[i] {
			return cmp.Compare(a[i], b[i])
		}
	}
	return 0
}

// BitLen is how many bits a has, without noughts ahead of them.
func BitLen[W Word](a []W) int {
	if len(a) == 0 {
		return 0
	}
	return (len(a)-1)*width[W]() + bits.Len64(uint64(a[len(a)-1]))
}

// take takes b from a, in place; b is not above a.
func take[W Word](a, b []W) {
	borrow := uint64(0)
	for i, x := range a {
		t := uint64(x) - borrow
		if i < len(b) {
			t -= uint64(b[i])
		}
		a[i] = W(t)
		borrow = t >> 63
	}
}

// Sub is a less b; b is not above a.
func Sub[W Word](a, b []W) []W {
	rest := slices.Clone(a)
	take(rest, b)
	return trim(rest)
}

// MulAdd is a times factor, and more added to it.
func MulAdd[W Word](a []W, factor, more W) []W {
	product := make([]W, len(a)+1)
	carry := uint64(more)
	for i, x := range a {
		carry += uint64(x) * uint64(factor)
		product[i] = W(carry)
		carry >>= width[W]()
	}
	product[len(a)] = W(carry)
	return trim(product)
}

// Mul is a times b.
func Mul[W Word](a, b []W) []W {
	product := make([]W, len(a)+len(b))
	for i, x := range a {
		carry := uint64(0)
		for j, y := range b {
			carry += uint64(x)*uint64(y) + uint64(product[i+j])
			product[i+j] = W(carry)
			carry >>= width[W]()
		}
		product[i+len(b)] = W(carry)
	}
	return trim(product)
}

// Power is base to the power n; n is not below 0.
func Power[W Word](base W, n int) []W {
	power := Of[W](1)
	for i := bits.Len(uint(n)) - 1; i >= 0; i-- {
		power = Mul(power, power)
		if n>>i&1 == 1 {
			power = MulAdd(power, base, 0)
		}
	}
	return power
}

// Shift is a times 2 to the power n; n is not below 0.
func Shift[W Word](a []W, n int) []W {
	words, odd := n/width[W](), n%width[W]()
	shifted := make([]W, words+len(a)+1)
	carry := uint64(0)
	for i, x := range a {
		carry |= uint64(x) << odd
		shifted[words+i] = W(carry)
		carry >>= width[W]()
	}
	shifted[words+len(a)] = W(carry)
	return trim(shifted)
}

// Digit is how many times b goes into a, and what is left of a. It takes b away
// time by time: it is meant for single digits. b is not 0.
func Digit[W Word](a, b []W) (int, []W) {
	digit, rest := 0, slices.Clone(a)
	for Compare(rest, b) >= 0 {
		take(rest, b)
		rest = trim(rest)
		digit++
	}
	return digit, rest
}
