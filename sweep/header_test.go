package sweep_test

import (
	"math"
	"testing"

	"derrick/sweep"
)

var (
	kinds     = []int{sweep.Data, sweep.Refs, sweep.Behind, sweep.Masked}
	edgeSizes = []int{0, 1, 2, 63, 64, 1 << 13, 1<<14 - 1, 1 << 14, 1<<14 + 62, 1<<14 + 63}
	edgeMasks = []int{0, 1, 2, 5, 1 << 8, 1 << 15, 1<<15 - 1, 1<<16 - 2, 1<<16 - 1}
)

// comesBack asks that a header is one, and what it was made of.
func comesBack(t *testing.T, kind, size, mask int) int {
	t.Helper()
	header := sweep.Header(kind, size, mask)
	k, s, m, ok := sweep.Open(header)
	if header == 0 || k != kind || s != size || m != mask || !ok {
		t.Errorf("Header(%d, %d, %d) = %d, opened %d, %d, %d, %v", kind, size, mask, header, k, s, m, ok)
	}
	return header
}

func noHeader(t *testing.T, word int) {
	t.Helper()
	if k, s, m, ok := sweep.Open(word); k != 0 || s != 0 || m != 0 || ok {
		t.Errorf("Open(%d) = %d, %d, %d, %v", word, k, s, m, ok)
	}
}

func TestTheKindsAreNumbered(t *testing.T) {
	if sweep.Data != 1 || sweep.Refs != 2 || sweep.Behind != 3 || sweep.Masked != 4 {
		t.Error(kinds)
	}
}

func TestHeadersAreOpened(t *testing.T) {
	for _, kind := range kinds {
		for _, mask := range edgeMasks {
			for size := range 1<<14 + 64 {
				comesBack(t, kind, size, mask)
			}
		}
		for _, size := range edgeSizes {
			for mask := range 1 << 16 {
				comesBack(t, kind, size, mask)
			}
		}
	}
}

func TestHeadersDifferWhereAPartDoes(t *testing.T) {
	type parts struct{ kind, size, mask int }
	seen := map[int]parts{}
	for _, kind := range kinds {
		for _, size := range edgeSizes {
			for _, mask := range edgeMasks {
				p := parts{kind, size, mask}
				header := sweep.Header(kind, size, mask)
				if q, ok := seen[header]; ok {
					t.Errorf("%v and %v have one header", p, q)
				}
				seen[header] = p
				if header != sweep.Header(kind, size, mask) {
					t.Errorf("%v: two headers", p)
				}
			}
		}
	}
}

func TestNoHeaderOfWrongParts(t *testing.T) {
	for _, x := range []struct{ kind, size, mask int }{
		{0, 0, 0}, {0, 1, 1}, {5, 0, 0}, {5, 1, 1}, {-1, 1, 1}, {6, 1, 1}, {8, 1, 1}, {math.MinInt, 0, 0}, {math.MaxInt, 0, 0}, {1 << 33, 0, 0}, {1<<33 + 1, 0, 0},
		{1, -1, 0}, {4, -1, 0}, {1, 1<<14 + 64, 0}, {2, 1<<14 + 64, 0}, {3, 1<<14 + 65, 0}, {4, 1 << 15, 0}, {1, math.MinInt, 0}, {1, math.MaxInt, 0}, {2, 1 << 32, 0},
		{1, 0, -1}, {4, 0, -1}, {1, 0, 1 << 16}, {3, 0, 1 << 16}, {4, 0, 1<<16 + 1}, {4, 0, 1 << 17}, {1, 0, math.MinInt}, {1, 0, math.MaxInt}, {2, 0, 1 << 48},
		{0, -1, -1}, {math.MinInt, math.MinInt, math.MinInt}, {math.MaxInt, math.MaxInt, math.MaxInt},
	} {
		if got := sweep.Header(x.kind, x.size, x.mask); got != 0 {
			t.Errorf("Header(%d, %d, %d) = %d", x.kind, x.size, x.mask, got)
		}
	}
}

func TestNoHeaderIsOpened(t *testing.T) {
	for _, word := range []int{0, -1, -2, 64, math.MinInt, math.MinInt + 1, math.MaxInt, math.MaxInt - 1} {
		noHeader(t, word)
	}
}

func TestAnAddressIsNoHeader(t *testing.T) {
	for at := range 1 << 20 {
		noHeader(t, at)
		noHeader(t, -at)
	}
}

// whole asks of any word that it is a header just if it is the one of its parts.
func whole(t *testing.T, word int) {
	t.Helper()
	k, s, m, ok := sweep.Open(word)
	if !ok {
		noHeader(t, word)
	} else if word == 0 || sweep.Header(k, s, m) != word {
		t.Errorf("Open(%d) = %d, %d, %d, whose header is %d", word, k, s, m, sweep.Header(k, s, m))
	}
}

func TestWordsBesideHeaders(t *testing.T) {
	for _, kind := range kinds {
		for _, size := range edgeSizes {
			for _, mask := range edgeMasks {
				header := comesBack(t, kind, size, mask)
				noHeader(t, -header)
				noHeader(t, ^header)
				noHeader(t, math.MinInt|header)
				whole(t, header-1)
				whole(t, header+1)
				for bit := range 64 {
					whole(t, header^1<<bit)
				}
			}
		}
	}
}
