package abacus_test

import (
	"math/big"
	"math/rand"
	"regexp"
	"strconv"
	"strings"
	"testing"

	"abacus/abacus"
	"abacus/api"
)

func checkScan(t *testing.T, text string, want uint64) {
	t.Helper()
	if bits, e := abacus.Scan(text); bits != want || e != api.OK {
		t.Errorf("P3: Scan(%q) = %016x, %d, want %016x", text, bits, e, want)
	}
}

func checkNoNumber(t *testing.T, text string) {
	t.Helper()
	if bits, e := abacus.Scan(text); bits != 0 || e != api.ErrNumber {
		t.Errorf("P3: Scan(%.80q) = %016x, %d, want ErrNumber", text, bits, e)
	}
}

const oneBits = uint64(0x3ff0000000000000)

func TestScanTable(t *testing.T) {
	for _, c := range []struct {
		text string
		bits uint64
	}{
		// the document's examples
		{"1e0", oneBits}, {"1", oneBits}, {"+1.", oneBits}, {".1e1", oneBits}, {"0010E-1", oneBits},
		{"9007199254740993", 0x4340000000000000},
		{"2.4703282292062328e-324", 1},
		{"2.4703282292062327e-324", 0},
		{"1.7976931348623159e308", infinityBits},
		{"1.7976931348623158e308", 0x7fefffffffffffff},
		{"1e999999999999", infinityBits},
		{"-1e-400", signBits},
		// words
		{"inf", infinityBits}, {"+inf", infinityBits}, {"-inf", signBits | infinityBits}, {"nan", canonicalBits},
		// zeros
		{"0", 0}, {"+0", 0}, {"-0", signBits}, {"0.", 0}, {".0", 0}, {"-.0", signBits}, {"000.000", 0},
		{"0e999999999999", 0}, {"-0e999999999999", signBits}, {"0e-999999999999", 0}, {"-00.00E+00", signBits},
		// ways to write one number
		{"1.0", oneBits}, {"01", oneBits}, {"1e+0", oneBits}, {"1e-0", oneBits}, {"1E00000000000000000000", oneBits},
		{"10.e-1", oneBits}, {"+.01E+02", oneBits}, {"-1", signBits | oneBits}, {"-1.e0", signBits | oneBits},
		{"100e-00000000000000000000000000000000000000000000000000002", oneBits},
		// two sizes equally near
		{"9007199254740995", 0x4340000000000002},
		{"9007199254740994.9999999999999999999999999999999999999999999", 0x4340000000000001},
		{"9007199254740995.0000000000000000000000000000000000000000001", 0x4340000000000002},
		{"9007199254740993.0000000000000000000000000000000000000000001", 0x4340000000000001},
		{"1e23", 0x44b52d02c7e14af6},
		// to zero and to the least size
		{"-2.4703282292062327e-324", signBits}, {"-2.4703282292062328e-324", signBits | 1},
		{"1e-324", 0}, {"3e-324", 1}, {"7e-324", 1}, {"8e-324", 2}, {"1e-323", 2},
		{"9e-325", 0}, {"1e-99999999999999999999999999999999999999999999999999999", 0},
		{"-1e-9223372036854775808", signBits}, {"-1e-18446744073709551616", signBits}, {"1e-4294967296", 0},
		// from sizes with e = 0 to the others
		{"2.2250738585072011e-308", 0x000fffffffffffff}, {"2.2250738585072012e-308", 0x0010000000000000},
		{"2.2250738585072014e-308", 0x0010000000000000},
		// to the greatest size and to infinity
		{"179769313486231570e291", 0x7fefffffffffffff}, {"1e308", 0x7fe1ccf385ebc8a0},
		{"1e309", infinityBits}, {"-1e309", signBits | infinityBits}, {"2e308", infinityBits},
		{"-1e99999999999999999999999999999999999999999999999999999999", signBits | infinityBits},
		{"1e9223372036854775808", infinityBits}, {"1e18446744073709551616", infinityBits}, {"1e4294967296", infinityBits},
		{"179769313486231580793728971405303415079934132710037826.e255", 0x7fefffffffffffff},
		{"179769313486231580793728971405303415079934132710037827.e255", infinityBits},
		// many noughts against a great power
		{"0." + strings.Repeat("0", 50) + "1e51", oneBits},
		{"1" + strings.Repeat("0", 50) + "e-50", oneBits},
		{"." + strings.Repeat("0", 50) + "1e359", 0x7fe1ccf385ebc8a0},
		{"1" + strings.Repeat("0", 50) + "e-373", 2},
	} {
		checkScan(t, c.text, c.bits)
	}
}

func TestScanLength(t *testing.T) {
	checkScan(t, strings.Repeat("0", 59)+"1", oneBits)
	checkNoNumber(t, strings.Repeat("0", 60)+"1")
	checkScan(t, "-1."+strings.Repeat("0", 57), signBits|oneBits)
	checkNoNumber(t, "-1."+strings.Repeat("0", 58))
	checkScan(t, "1e"+strings.Repeat("0", 58), oneBits)
	checkNoNumber(t, "1e"+strings.Repeat("0", 59))
	checkScan(t, strings.Repeat("9", 60), 0x4c63e9e4e4c2f344)
	checkNoNumber(t, strings.Repeat("9", 61))
	checkNoNumber(t, strings.Repeat("1", 1000000))
	checkNoNumber(t, "inf"+strings.Repeat(" ", 58))
}

func TestScanNoNumber(t *testing.T) {
	for _, text := range []string{
		"", "+", "-", ".", "+.", "-.", "e", "E5", "e1", ".e1", "-e1", "+.e1",
		"1e", "1E", "1e+", "1e-", "1.e", "1e.", "1e.5", "1e1.", "1e1.0", "1e1e1", "1e++1", "1e+-1", "1ee1", "1e 1", "1e1-",
		"1 ", " 1", "1\n", "1\r", "\t1", "1\x00", "\x001", "1 2", "+ 1",
		"Inf", "INF", "iNf", "NaN", "NAN", "Nan", "-nan", "+nan", "--inf", "+-inf", "infinity", "-infinity", "in", "na", "inf ", "nan0", "inf.", "infe1", "1inf",
		"0x1", "0x1p4", "1p4", "0b1", "0o7", "1_0", "1,0", "1'0", "1d0", "1f", "1..", "..1", "1.2.3", "1.2.", ".1.",
		"--1", "++1", "+-1", "-+1", "1-", "1+", "1+1", "\xff", "1\xff", "١", "１", "−1", "½", "a", "1/2", "1:", "1e:",
	} {
		checkNoNumber(t, text)
	}
}

var numberText = regexp.MustCompile(`^[+-]?([0-9]+\.?[0-9]*|\.[0-9]+)([eE][+-]?[0-9]+)?$`)

// digitsAndPower: the value of a number's text, without its sign, is d 10^k.
func digitsAndPower(text string) (d *big.Int, k int) {
	text = strings.TrimLeft(text, "+-")
	mantissa, power, _ := strings.Cut(strings.ToLower(text), "e")
	k, _ = strconv.Atoi(power)
	whole, fraction, _ := strings.Cut(mantissa, ".")
	d, _ = new(big.Int).SetString("0"+whole+fraction, 10)
	return d, k - len(fraction)
}

// checkRounded holds a number's text, of a power from -380 to 380, against the word 'rounded'.
func checkRounded(t *testing.T, text string) {
	t.Helper()
	bits, e := abacus.Scan(text)
	if e != api.OK || strings.HasPrefix(text, "-") != (bits&signBits != 0) {
		t.Fatalf("P3: Scan(%q) = %016x, %d", text, bits, e)
	}
	d, k := digitsAndPower(text)
	if size := bits &^ signBits; size > infinityBits || !roundsTo(exactDecimal(d, k), size) {
		t.Fatalf("P3: Scan(%q) = %016x: not rounded so", text, bits)
	}
}

func randomDigits(r *rand.Rand, n int) string {
	b := make([]byte, n)
	for i := range b {
		b[i] = "0123456789"[r.Intn(10)]
	}
	return string(b)
}

func TestScanRandom(t *testing.T) {
	r := rand.New(rand.NewSource(4))
	for range 20000 {
		sign := []string{"", "-", "+"}[r.Intn(3)]
		digits := randomDigits(r, 1+r.Intn(50))
		point := r.Intn(len(digits) + 1)
		checkRounded(t, sign+digits[:point]+"."+digits[point:]+"e"+strconv.Itoa(r.Intn(760)-380))
	}
}

// TestScanHalfway: texts that tell what is halfway from a size to the next, and
// ones that are away from it by 1 in their last digit, or by a digit further down.
func TestScanHalfway(t *testing.T) {
	r := rand.New(rand.NewSource(5))
	for e := uint64(1); e < 2046; e++ {
		for range 4 {
			size := e<<52 | r.Uint64()>>12
			if r.Intn(4) == 0 {
				size = e<<52 + uint64(r.Intn(3)) - 1
			}
			d, k := decimalOf(halfway(size))
			text := d.String()
			if len(text) > 50 {
				text, k = text[:50], k+len(text)-50
			}
			near, _ := new(big.Int).SetString(text, 10)
			for change := int64(-1); change <= 1; change++ {
				other := new(big.Int).Add(near, big.NewInt(change))
				checkRounded(t, other.String()+"e"+strconv.Itoa(k))
			}
			checkRounded(t, text+".001e"+strconv.Itoa(k))
		}
	}
}

// decimalOf: x, which is a multiple of 2^-1075, is d 10^k.
func decimalOf(x *big.Int) (d *big.Int, k int) {
	d = new(big.Int).Quo(x, unit)
	d.Mul(d, new(big.Int).Exp(big.NewInt(5), big.NewInt(1075), nil))
	text := strings.TrimRight(d.String(), "0")
	k = len(d.String()) - len(text) - 1075
	d.SetString(text, 10)
	return d, k
}

// TestScanForm: what is a number's text, and what is none, among texts of the bytes that such texts have.
func TestScanForm(t *testing.T) {
	r := rand.New(rand.NewSource(6))
	const alphabet = "0123456789005+-..eE"
	numbers := 0
	for range 200000 {
		b := make([]byte, r.Intn(9))
		for i := range b {
			b[i] = alphabet[r.Intn(len(alphabet))]
		}
		text := string(b)
		if !numberText.MatchString(text) {
			checkNoNumber(t, text)
			continue
		}
		numbers++
		if _, k := digitsAndPower(text); -380 <= k && k <= 380 {
			checkRounded(t, text)
		} else if _, e := abacus.Scan(text); e != api.OK {
			t.Fatalf("P3: Scan(%q): %d", text, e)
		}
	}
	if numbers < 1000 {
		t.Fatalf("only %d texts were numbers", numbers)
	}
}

// TestScanAnything: texts of any bytes are answered, and with an error the number is 0 (P1).
func TestScanAnything(t *testing.T) {
	r := rand.New(rand.NewSource(7))
	for range 100000 {
		b := make([]byte, r.Intn(70))
		for i := range b {
			b[i] = byte(r.Intn(256))
			if r.Intn(2) == 0 {
				b[i] = "0123456789+-.einfa"[r.Intn(18)]
			}
		}
		text := string(b)
		isWord := text == "inf" || text == "+inf" || text == "-inf" || text == "nan"
		if len(text) > 60 || !isWord && !numberText.MatchString(text) {
			checkNoNumber(t, text)
		} else if _, e := abacus.Scan(text); e != api.OK {
			t.Fatalf("P3: Scan(%q): %d", text, e)
		}
	}
}
