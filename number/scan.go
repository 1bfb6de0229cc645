package number

import (
	"strings"

	"abacus/api"
	"abacus/natural"
)

// Scan is the number that a text tells.
func Scan(text string) (uint64, api.Errno) {
	if len(text) > api.MaxToken {
		return 0, api.ErrNumber
	}
	switch text {
	case "inf", "+inf":
		return infinity, api.OK
	case "-inf":
		return signBit | infinity, api.OK
	case "nan":
		return canonicalNan, api.OK
	}
	minus, rest := cutSign(text)
	d, ok := scanDecimal(rest)
	if !ok {
		return 0, api.ErrNumber
	}
	size := d.round()
	if minus {
		size |= signBit
	}
	return size, api.OK
}

// decimal is digits (without noughts ahead, so that 0 has none) times 10 to the power.
type decimal struct {
	digits string
	power  int
}

func scanDecimal(text string) (decimal, bool) {
	whole, rest := cutDigits(text)
	fraction := ""
	if behind, found := strings.CutPrefix(rest, "."); found {
		fraction, rest = cutDigits(behind)
	}
	digits := whole + fraction
	if digits == "" {
		return decimal{}, false
	}
	power, ok := scanPower(rest)
	return decimal{strings.TrimLeft(digits, "0"), power - len(fraction)}, ok
}

// scanPower reads what stands behind the digits: nothing, or a power of ten.
func scanPower(text string) (int, bool) {
	if text == "" {
		return 0, true
	}
	if text[0] != 'e' && text[0] != 'E' {
		return 0, false
	}
	minus, rest := cutSign(text[1:])
	digits, rest := cutDigits(rest)
	if digits == "" || rest != "" {
		return 0, false
	}
	power := smallWhole(digits)
	if minus {
		power = -power
	}
	return power, true
}

// smallWhole is what digits tell, but no more than some thousands: the digits of
// a number's text are too few to bring such a power back to a size.
func smallWhole(digits string) int {
	const enough = 1000
	value := 0
	for i := 0; i < len(digits) && value < enough; i++ {
		value = value*10 + int(digits[i]-'0')
	}
	return value
}

func cutSign(text string) (minus bool, rest string) {
	if text == "" || text[0] != '+' && text[0] != '-' {
		return false, text
	}
	return text[0] == '-', text[1:]
}

func cutDigits(text string) (digits, rest string) {
	n := 0
	for n < len(text) && '0' <= text[n] && text[n] <= '9' {
		n++
	}
	return text[:n], text[n:]
}

// round is the size nearest to the decimal, or infinity.
func (d decimal) round() uint64 {
	if d.digits == "" {
		return 0
	}
	// The decimal is below 10 to this power, and not below a tenth of that: so
	// much is known ahead of any long number.
	top := d.power + len(d.digits)
	switch {
	case top > 309:
		return infinity // not below 10^309, which is above 2^1024
	case top < -323:
		return 0 // below 10^-324, which is below half of the least size
	}
	var digits []word
	for i := range len(d.digits) {
		digits = natural.MulAdd(digits, 10, word(d.digits[i]-'0'))
	}
	if d.power >= 0 {
		return roundQuotient(natural.Mul(digits, tenTo(d.power)), natural.Of[word](1))
	}
	return roundQuotient(digits, tenTo(-d.power))
}
