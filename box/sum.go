package box

// sum is the sum of some bytes, to which more can be added; 0 is that of none.
type sum uint32

const sumBits uint32 = 0xedb88320

// add is the sum with one more byte.
func (s sum) add(b byte) sum {
	// A sum is told with all bits turned, and worked with as they were.
	h := ^uint32(s)
	for i := range 8 {
		differ := (h^uint32(b)>>i)&1 == 1
		h >>= 1
		if differ {
			h ^= sumBits
		}
	}
	return sum(^h)
}

func sumOf(bytes []byte) sum {
	var s sum
	for _, b := range bytes {
		s = s.add(b)
	}
	return s
}
