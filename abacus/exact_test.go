package abacus_test

import "math/big"

// What the document says of sizes and intervals, in whole numbers: all that the
// tests hold against each other is told as a multiple of 1/(2^1075 10^450).

const (
	infinityBits  = uint64(0x7ff0000000000000)
	canonicalBits = uint64(0x7ff8000000000000)
	signBits      = uint64(1) << 63

	tensBelow = 450
)

func tens(n int) *big.Int {
	return new(big.Int).Exp(big.NewInt(10), big.NewInt(int64(n)), nil)
}

var unit = tens(tensBelow)

// exactSize is a size; infinity counts as 2^1024.
func exactSize(size uint64) *big.Int {
	e, f := size>>52, size&(1<<52-1)
	x := new(big.Int).SetUint64(f)
	shift := uint(1)
	if e > 0 {
		x.SetUint64(1<<52 | f)
		shift = uint(e)
	}
	return x.Lsh(x, shift).Mul(x, unit)
}

// exactDecimal is d 10^k, for k from -450 on.
func exactDecimal(d *big.Int, k int) *big.Int {
	x := new(big.Int).Mul(d, tens(k+tensBelow))
	return x.Lsh(x, 1075)
}

// ends are the ends of what is rounded to a size (or to infinity, which has no
// upper one); of 0 the lower one is 0.
func ends(size uint64) (low, high *big.Int) {
	low, high = new(big.Int), nil
	if size > 0 {
		low = halfway(size - 1)
	}
	if size < infinityBits {
		high = halfway(size)
	}
	return low, high
}

// halfway is halfway from a size to the next.
func halfway(size uint64) *big.Int {
	x := new(big.Int).Add(exactSize(size), exactSize(size+1))
	return x.Rsh(x, 1)
}

// roundsTo tells whether x is rounded to a size, or to infinity.
func roundsTo(x *big.Int, size uint64) bool {
	low, high := ends(size)
	most := 0 // order of x and an end: the ends belong to sizes whose bit 0 is 0
	if size&1 == 1 {
		most = -1
	}
	return low.Cmp(x) <= most && (high == nil || x.Cmp(high) <= most)
}
