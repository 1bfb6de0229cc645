package number

import (
	"math/bits"
	"strconv"
	"strings"

	"abacus/natural"
)

// Print is the text of a number, with as few digits as tell it from all others.
func Print(number uint64) string {
	sign := ""
	if number&signBit != 0 {
		sign = "-"
	}
	size := number &^ signBit
	switch {
	case size > infinity:
		return "nan"
	case size == infinity:
		return sign + "inf"
	case size == 0:
		return sign + "0"
	}
	return sign + layOut(shortest(size))
}

// layOut writes the decimal digits times 10 to the power.
func layOut(digits uint64, power int) string {
	text := strconv.FormatUint(digits, 10)
	power += len(text) - 1
	text = strings.TrimRight(text, "0")
	if len(text) > 1 {
		text = text[:1] + "." + text[1:]
	}
	return text + "e" + strconv.Itoa(power)
}

// span is a size and how far its interval reaches from it, all as multiples of
// 1/one, so that they are whole.
type span struct {
	size, below, above, one []word
	closed                  bool // the ends belong to the interval
}

func spanOf(size uint64) span {
	whole, power := parts(size)
	// The interval ends halfway to the neighbours, and the one below may be half
	// a step away: so quarters of a step are counted.
	quarter, one := natural.Of[word](1), natural.Of[word](4)
	if power >= 0 {
		quarter = natural.Shift(quarter, power)
	} else {
		one = natural.Shift(one, -power)
	}
	s := span{
		size:   natural.Mul(natural.Of[word](whole), natural.Shift(quarter, 2)),
		below:  natural.Shift(quarter, 1),
		above:  natural.Shift(quarter, 1),
		one:    one,
		closed: size&1 == 0,
	}
	if nearerBelow(size) {
		s.below = quarter
	}
	return s
}

// scale divides the span by the power of ten that leaves the size one digit ahead
// of the point, and answers that power.
func (s *span) scale(guess int) int {
	if guess >= 0 {
		s.one = natural.Mul(s.one, tenTo(guess))
	} else {
		factor := tenTo(-guess)
		s.size = natural.Mul(s.size, factor)
		s.below = natural.Mul(s.below, factor)
		s.above = natural.Mul(s.above, factor)
	}
	for natural.Compare(s.size, tenfold(s.one)) >= 0 {
		s.one = tenfold(s.one)
		guess++
	}
	return guess
}

// guessPower is a power of ten that the size is not below, and not far above.
func guessPower(size uint64) int {
	whole, power := parts(size)
	twos := bits.Len64(whole) - 1 + power
	// 1233/4096 is the logarithm of 2, but for less than 1 in all that twos can be.
	return twos*1233>>12 - 1
}

// within tells whether what is so far from the size is in the interval.
func (s *span) within(distance, reach []word) bool {
	order := natural.Compare(distance, reach)
	return order < 0 || order == 0 && s.closed
}

// shortest is the decimal (digits times 10 to the power) that a size is printed as.
//
// With each digit that is taken, digits and digits+1 are the nearest on either
// side of the size of all decimals that have so many digits or fewer. If neither
// is in the interval, none of those is.
func shortest(size uint64) (digits uint64, power int) {
	s := spanOf(size)
	power = s.scale(guessPower(size))
	for {
		digit, down := natural.Digit(s.size, s.one)
		digits = digits*10 + uint64(digit)
		up := natural.Sub(s.one, down)
		lower, upper := s.within(down, s.below), s.within(up, s.above)
		switch {
		case lower && upper:
			return digits + nearer(digits, down, up), power
		case lower:
			return digits, power
		case upper:
			return digits + 1, power
		}
		s.size, s.below, s.above = tenfold(down), tenfold(s.below), tenfold(s.above)
		power--
	}
}

// nearer is what to add to digits: 0 if the lower decimal is to be taken, else 1.
func nearer(digits uint64, down, up []word) uint64 {
	switch natural.Compare(down, up) {
	case -1:
		return 0
	case 1:
		return 1
	}
	return digits & 1
}
