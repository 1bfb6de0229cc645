package box

import (
	"hash/crc32"
	"math/rand/v2"
	"testing"
)

func TestSum(t *testing.T) {
	if s := sumOf([]byte("123456789")); s != 0xcbf43926 {
		t.Errorf("the sum of 123456789: %x", s)
	}
	if s := sumOf(nil); s != 0 {
		t.Errorf("the sum of no bytes: %x", s)
	}
	r := rand.New(rand.NewPCG(1, 2))
	for n := range 300 {
		bytes := make([]byte, n)
		for i := range bytes {
			bytes[i] = byte(r.Uint32())
		}
		if s, want := sumOf(bytes), crc32.ChecksumIEEE(bytes); uint32(s) != want {
			t.Fatalf("the sum of %x: %x, want %x", bytes, s, want)
		}
	}
}
