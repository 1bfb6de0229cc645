// Package number prints and scans numbers: 64 bits each, worked with as whole
// numbers only.
package number

import "abacus/natural"

// word is the widest that natural numbers can be made of.
type word = uint32

const (
	signBit      uint64 = 1 << 63
	infinity     uint64 = 0x7ff << fractionBits
	canonicalNan uint64 = infinity | 1<<(fractionBits-1)

	fractionBits = 52
	leastPower   = -1074 // of two: what bit 0 of the least size is worth
	leastNormal  = leastPower + fractionBits
)

// Canonical is the number, or the canonical nan, if it is a nan.
func Canonical(number uint64) uint64 {
	if number&^signBit > infinity {
		return canonicalNan
	}
	return number
}

// parts takes a size apart: it is whole times 2 to the power.
func parts(size uint64) (whole uint64, power int) {
	exponent := size >> fractionBits
	fraction := size & (1<<fractionBits - 1)
	if exponent == 0 {
		return fraction, leastPower
	}
	return 1<<fractionBits | fraction, int(exponent) - 1 + leastPower
}

// nearerBelow tells whether the size just below is nearer than the one just
// above: the powers of two are such, but for those where the step stays the same.
func nearerBelow(size uint64) bool {
	return size&(1<<fractionBits-1) == 0 && size>>fractionBits > 1
}

func tenTo(n int) []word {
	return natural.Power[word](10, n)
}

func tenfold(a []word) []word {
	return natural.MulAdd(a, 10, 0)
}
