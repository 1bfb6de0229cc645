package natural

import (
	"math/big"
	"math/rand"
	"slices"
	"testing"
)

type named uint16

func toBig[W Word](a []W) *big.Int {
	x := new(big.Int)
	for i := len(a) - 1; i >= 0; i-- {
		x.Lsh(x, uint(width[W]()))
		x.Or(x, new(big.Int).SetUint64(uint64(a[i])))
	}
	return x
}

// some is a number of up to most words. Words of noughts and of ones alone are
// frequent, so that carries go far.
func some[W Word](r *rand.Rand, most int) []W {
	a := make([]W, r.Intn(most+1))
	for i := range a {
		switch r.Intn(4) {
		case 0:
			a[i] = 0
		case 1:
			a[i] = ^W(0)
		default:
			a[i] = W(r.Uint64())
		}
	}
	return trim(a)
}

func check[W Word](t *testing.T, what string, got []W, want *big.Int) {
	t.Helper()
	if len(got) > 0 && got[len(got)-1] == 0 {
		t.Fatalf("%s: the highest word is 0: %v", what, got)
	}
	if toBig(got).Cmp(want) != 0 {
		t.Fatalf("%s = %v, want %v", what, toBig(got), want)
	}
}

func testTwo[W Word](t *testing.T, a, b []W) {
	x, y := toBig(a), toBig(b)
	keptA, keptB := slices.Clone(a), slices.Clone(b)
	if got := Compare(a, b); got != x.Cmp(y) {
		t.Fatalf("Compare(%v, %v) = %d", x, y, got)
	}
	check(t, "Mul", Mul(a, b), new(big.Int).Mul(x, y))
	if Compare(a, b) >= 0 {
		check(t, "Sub", Sub(a, b), new(big.Int).Sub(x, y))
	}
	if !slices.Equal(a, keptA) || !slices.Equal(b, keptB) {
		t.Fatalf("a list that was given has been changed")
	}
}

func testOne[W Word](t *testing.T, r *rand.Rand, a []W) {
	x := toBig(a)
	kept := slices.Clone(a)
	if got := BitLen(a); got != x.BitLen() {
		t.Fatalf("BitLen(%v) = %d", x, got)
	}
	n := r.Intn(100)
	check(t, "Shift", Shift(a, n), new(big.Int).Lsh(x, uint(n)))
	factor, more := W(r.Uint64()), W(r.Uint64())
	if r.Intn(3) == 0 {
		factor, more = ^W(0), ^W(0)
	}
	want := new(big.Int).Mul(x, new(big.Int).SetUint64(uint64(factor)))
	check(t, "MulAdd", MulAdd(a, factor, more), want.Add(want, new(big.Int).SetUint64(uint64(more))))
	if len(a) > 0 {
		testDigit(t, r, a)
	}
	if !slices.Equal(a, kept) {
		t.Fatalf("a list that was given has been changed")
	}
}

func testDigit[W Word](t *testing.T, r *rand.Rand, b []W) {
	times := W(r.Intn(10))
	rest := Of[W](uint64(r.Intn(int(min(uint64(b[0]), 200)) + 1)))
	if Compare(rest, b) >= 0 {
		rest = nil
	}
	var a []W
	if len(rest) == 0 {
		a = MulAdd(b, times, 0)
	} else {
		a = MulAdd(b, times, rest[0])
	}
	kept := slices.Clone(a)
	digit, left := Digit(a, b)
	if digit != int(times) {
		t.Fatalf("Digit(%v, %v) = %d, want %d", toBig(a), toBig(b), digit, times)
	}
	check(t, "Digit", left, toBig(rest))
	if !slices.Equal(a, kept) {
		t.Fatalf("Digit has changed what it was given")
	}
	if len(left) > 0 {
		left[0]++
		if !slices.Equal(a, kept) {
			t.Fatalf("what Digit leaves is the list that it was given")
		}
	}
}

func testWords[W Word](t *testing.T) {
	r := rand.New(rand.NewSource(1))
	for range 3000 {
		testTwo(t, some[W](r, 6), some[W](r, 6))
		a := some[W](r, 6)
		testTwo(t, a, slices.Clone(a))
		testOne(t, r, a)
		x := r.Uint64() >> r.Intn(65)
		check(t, "Of", Of[W](x), new(big.Int).SetUint64(x))
	}
	for n := range 400 {
		for _, base := range []W{0, 1, 2, 10, ^W(0)} {
			want := new(big.Int).Exp(new(big.Int).SetUint64(uint64(base)), big.NewInt(int64(n)), nil)
			check(t, "Power", Power(base, n), want)
		}
	}
}

func TestNarrowWords(t *testing.T) { testWords[uint8](t) }
func TestMiddleWords(t *testing.T) { testWords[uint16](t) }
func TestWideWords(t *testing.T)   { testWords[uint32](t) }
func TestNamedWords(t *testing.T)  { testWords[named](t) }
