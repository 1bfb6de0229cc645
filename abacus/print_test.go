package abacus_test

import (
	"math/big"
	"math/rand"
	"regexp"
	"strconv"
	"testing"

	"abacus/abacus"
	"abacus/api"
)

func TestPrintTable(t *testing.T) {
	for _, c := range []struct {
		bits uint64
		text string
	}{
		// the document's examples
		{0x3ff0000000000000, "1e0"},
		{0x3fb999999999999a, "1e-1"},
		{0x4059000000000000, "1e2"},
		{0x405edd2f1a9fbe77, "1.23456e2"},
		{0x0000000000000001, "5e-324"},
		{0x7fefffffffffffff, "1.7976931348623157e308"},
		{0x44b52d02c7e14af6, "1e23"},
		{0x4340000000000001, "9.007199254740994e15"},
		{0xc000000000000000, "-2e0"},
		// nans, infinities, zeros
		{canonicalBits, "nan"},
		{signBits | canonicalBits, "nan"},
		{0x7ff0000000000001, "nan"},
		{0xfff0000000000001, "nan"},
		{0x7fffffffffffffff, "nan"},
		{0xffffffffffffffff, "nan"},
		{infinityBits, "inf"},
		{signBits | infinityBits, "-inf"},
		{0, "0"},
		{signBits, "-0"},
		// the ends of the sizes, and of those with e = 0
		{0x8000000000000001, "-5e-324"},
		{0x0000000000000002, "1e-323"},
		{0x0000000000000003, "1.5e-323"},
		{0x000fffffffffffff, "2.225073858507201e-308"},
		{0x0010000000000000, "2.2250738585072014e-308"},
		{0xffefffffffffffff, "-1.7976931348623157e308"},
		// the end of the interval, 1e23, belongs to the size below it only
		{0x44b52d02c7e14af7, "1.0000000000000001e23"},
		// the one below is nearer: the nearest of the shortest falls out of the interval
		{0x3d30000000000000, "5.684341886080802e-14"},
		{0x0060000000000000, "7.120236347223045e-307"},
		{0x4580000000000000, "6.189700196426902e26"},
		{0x4340000000000000, "9.007199254740992e15"},
		// two decimals are equally near
		{0x4310000000000001, "1.1258999068426242e15"},
		{0x4310000000000003, "1.1258999068426248e15"},
		{0x3e60000000000000, "2.9802322387695312e-8"},
		// the nearest decimal has one digit more ahead of the point than the size
		{0x3fefffffffffffff, "9.999999999999999e-1"},
		{0x3f847ae147ae147b, "1e-2"},
		{0x4341c37937e08000, "1e16"},
	} {
		if text := abacus.Print(c.bits); text != c.text {
			t.Errorf("P2: Print(%016x) = %q, want %q", c.bits, text, c.text)
		}
	}
}

var printed = regexp.MustCompile(`^(-?)([1-9])(?:\.([0-9]*[1-9]))?e(0|-?[1-9][0-9]*)$`)

// checkPrint holds what is printed for a number with a size against each word of P2.
func checkPrint(t *testing.T, bits uint64) {
	t.Helper()
	text := abacus.Print(bits)
	m := printed.FindStringSubmatch(text)
	if m == nil {
		t.Fatalf("P2: Print(%016x) = %q: not so written", bits, text)
	}
	if (m[1] == "-") != (bits&signBits != 0) {
		t.Fatalf("P2: Print(%016x) = %q: wrong sign", bits, text)
	}
	d, _ := new(big.Int).SetString(m[2]+m[3], 10)
	k, _ := strconv.Atoi(m[4])
	k -= len(m[3])
	size := bits &^ signBits
	if !roundsTo(exactDecimal(d, k), size) {
		t.Fatalf("P2: Print(%016x) = %q: not in the interval", bits, text)
	}
	if len(m[3]) > 0 && fewerDigits(size, k+1) {
		t.Fatalf("P2: Print(%016x) = %q: there is one with fewer digits", bits, text)
	}
	for _, other := range rivals(d, k, len(m[3]) == 0) {
		if roundsTo(other, size) && !better(size, d, k, other) {
			t.Fatalf("P2: Print(%016x) = %q: another is to be taken", bits, text)
		}
	}
	if back, e := abacus.Scan(text); back != bits || e != api.OK {
		t.Fatalf("P3: Scan(%q) = %016x, %d, want %016x", text, back, e, bits)
	}
}

// fewerDigits tells whether the interval holds a whole multiple of 10^k: one of
// the two next to the size, if any.
func fewerDigits(size uint64, k int) bool {
	step := exactDecimal(big.NewInt(1), k)
	below := new(big.Int).Div(exactSize(size), step)
	below.Mul(below, step)
	return roundsTo(below, size) || roundsTo(new(big.Int).Add(below, step), size)
}

// rivals are decimals with as many digits as d 10^k that may be as near: its
// neighbours; or, with one digit, all that are about as great.
func rivals(d *big.Int, k int, single bool) []*big.Int {
	if !single {
		one := big.NewInt(1)
		return []*big.Int{exactDecimal(new(big.Int).Sub(d, one), k), exactDecimal(new(big.Int).Add(d, one), k)}
	}
	var all []*big.Int
	for power := k - 1; power <= k+1; power++ {
		for digit := int64(1); digit <= 9; digit++ {
			if power != k || digit != d.Int64() {
				all = append(all, exactDecimal(big.NewInt(digit), power))
			}
		}
	}
	return all
}

// better tells whether d 10^k is nearer than other, or as near and even.
func better(size uint64, d *big.Int, k int, other *big.Int) bool {
	v := exactSize(size)
	near := new(big.Int).Sub(exactDecimal(d, k), v)
	far := new(big.Int).Sub(other, v)
	order := near.CmpAbs(far)
	return order < 0 || order == 0 && d.Bit(0) == 0
}

func TestPrintSteps(t *testing.T) {
	for e := uint64(0); e < 2047; e++ {
		for _, bits := range []uint64{e<<52 - 1, e << 52, e<<52 + 1} {
			if size := bits &^ signBits; size != 0 && size < infinityBits {
				checkPrint(t, bits)
			}
		}
	}
}

func TestPrintLeast(t *testing.T) {
	for bits := uint64(1); bits < 2000; bits++ {
		checkPrint(t, bits)
	}
}

// TestPrintTies: between 2^50 and 2^51 sizes are quarters, so that those that
// end with .25 and .75 have two decimals equally near.
func TestPrintTies(t *testing.T) {
	for bits := uint64(0x4310000000000001); bits < 0x4310000000000400; bits += 2 {
		checkPrint(t, bits)
	}
}

// TestPrintTens: at powers of ten, intervals hold decimals of few digits or just miss them.
func TestPrintTens(t *testing.T) {
	for k := -323; k <= 308; k++ {
		for digit := range 9 {
			bits, _ := abacus.Scan(strconv.Itoa(digit+1) + "e" + strconv.Itoa(k))
			for size := bits - 1; size <= bits+1; size++ {
				if size != 0 && size < infinityBits {
					checkPrint(t, size)
				}
			}
		}
	}
}

func TestPrintRandom(t *testing.T) {
	r := rand.New(rand.NewSource(2))
	for range 20000 {
		bits := r.Uint64()
		switch size := bits &^ signBits; {
		case size > infinityBits:
			if text := abacus.Print(bits); text != "nan" {
				t.Fatalf("P2: Print(%016x) = %q, want nan", bits, text)
			}
		case size != 0 && size != infinityBits:
			checkPrint(t, bits)
		}
	}
}
