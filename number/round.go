package number

import "abacus/natural"

// roundQuotient is the size nearest to upper/lower, or infinity; of two equally
// near the one whose bit 0 is 0. Neither upper nor lower is 0.
func roundQuotient(upper, lower []word) uint64 {
	upper, lower, power := normalize(upper, lower)
	steps := fractionBits + 1
	if power < leastNormal {
		steps = power - leastPower + 1
	}
	switch {
	case power > 1023:
		return infinity
	case steps < 0:
		return 0
	}
	var whole uint64
	for range steps {
		digit, rest := natural.Digit(upper, lower)
		whole = whole<<1 | uint64(digit)
		upper = natural.Shift(rest, 1)
	}
	// What is left is upper/lower halves of a step.
	order := natural.Compare(upper, lower)
	if order > 0 || order == 0 && whole&1 == 1 {
		whole++
	}
	// Bit 52 of a whole that has it, and a carry into bit 53 likewise, counts the
	// exponent up: next sizes have next bits, infinity behind the last of them.
	return uint64(max(power-leastNormal, 0))<<fractionBits + whole
}

// normalize shifts upper or lower until their quotient is from 1 to below 2, and
// answers the power of two that it has lost.
func normalize(upper, lower []word) ([]word, []word, int) {
	power := natural.BitLen(upper) - natural.BitLen(lower)
	if power >= 0 {
		lower = natural.Shift(lower, power)
	} else {
		upper = natural.Shift(upper, -power)
	}
	if natural.Compare(upper, lower) < 0 {
		return natural.Shift(upper, 1), lower, power - 1
	}
	return upper, lower, power
}
