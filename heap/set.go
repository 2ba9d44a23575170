package heap

import "math/bits"

// set is a set of spans, a bit each, so that the lowest one is found without going through them all.
type set []uint64

func newSet(n int) set {
	return make(set, (n+63)/64)
}

func (b set) add(s int) {
	b[s/64] |= 1 << (s % 64)
}

func (b set) remove(s int) {
	b[s/64] &^= 1 << (s % 64)
}

func (b set) has(s int) bool {
	return b[s/64]>>(s%64)&1 == 1
}

func (b set) least() (int, bool) {
	for i, w := range b {
		if w != 0 {
			return i*64 + bits.TrailingZeros64(w), true
		}
	}
	return 0, false
}

func (b set) count() int {
	n := 0
	for _, w := range b {
		n += bits.OnesCount64(w)
	}
	return n
}
