package heap_test

import (
	"math"
	"slices"
	"testing"

	"derrick/api"
	"derrick/heap"
)

// fill sets each word of a block's room to what hangs on its address.
func fill(t *testing.T, h *heap.Heap, at int) {
	t.Helper()
	for k := range h.Room(at) {
		if !h.Store(at, k, -at-k) {
			t.Errorf("Store(%d, %d) is false", at, k)
		}
	}
}

func filled(t *testing.T, h *heap.Heap, at int) {
	t.Helper()
	for k := range h.Room(at) {
		if v, ok := h.Load(at, k); v != -at-k || !ok {
			t.Errorf("Load(%d, %d) = %d, %v", at, k, v, ok)
		}
	}
}

func isClear(t *testing.T, h *heap.Heap, at int) {
	t.Helper()
	for k := range h.Room(at) {
		if v, ok := h.Load(at, k); v != 0 || !ok {
			t.Errorf("new: Load(%d, %d) = %d, %v", at, k, v, ok)
		}
	}
}

func TestNewBlocksAreClear(t *testing.T) {
	sizes := []int{1, 3, 5, 9, 17, 33, 65, 130, 250}
	for _, was := range sizes {
		for _, n := range sizes {
			h := made(t, 320)
			var full []int
			for {
				at, ok := h.Alloc(was)
				if !ok {
					break
				}
				fill(t, h, at)
				full = append(full, at)
			}
			for _, at := range full {
				filled(t, h, at)
				ends(t, h, at)
			}
			goes(t, h, n, 64)
			isClear(t, h, 64)
		}
	}
}

func TestANewBlockLeavesItsNeighbours(t *testing.T) {
	for room := 2; room <= 64; room *= 2 {
		h := made(t, 64*5)
		for at := 64; at < 320; at += room {
			goes(t, h, room, at)
			fill(t, h, at)
		}
		ends(t, h, 128)
		goes(t, h, room, 128)
		isClear(t, h, 128)
		for at := 64; at < 320; at += room {
			if at != 128 {
				filled(t, h, at)
			}
		}
	}
}

func TestTheEdgesOfARoom(t *testing.T) {
	for _, n := range []int{1, 2, 3, 8, 9, 32, 33, 64, 65, 200, api.MaxSlots + 64} {
		h := made(t, 64*600)
		goes(t, h, n, 64)
		goes(t, h, n, 64+h.Room(64))
		room := h.Room(64)
		at := 64 + room
		for _, k := range []int{0, room - 1} {
			if !h.Store(at, k, math.MinInt+k) {
				t.Errorf("%d words: Store at %d is false", n, k)
			}
			if v, ok := h.Load(at, k); v != math.MinInt+k || !ok {
				t.Errorf("%d words: the word %d is %d, %v", n, k, v, ok)
			}
		}
		for _, k := range []int{-1, room, room + 1, -room, math.MinInt, math.MaxInt, math.MaxInt - at + 1} {
			if v, ok := h.Load(at, k); v != 0 || ok || h.Store(at, k, 9) {
				t.Errorf("%d words: there is a word %d", n, k)
			}
		}
		isClear(t, h, 64)
	}
}

func TestWordsAreAnyInts(t *testing.T) {
	h := made(t, 128)
	goes(t, h, 8, 64)
	words := []int{math.MinInt, math.MaxInt, -1, 1, 0, 64, 1 << 32, -1 << 40}
	for k, v := range words {
		if !h.Store(64, k, v) {
			t.Errorf("Store(64, %d, %d) is false", k, v)
		}
	}
	for k, v := range words {
		if got, ok := h.Load(64, k); got != v || !ok {
			t.Errorf("Load(64, %d) = %d, %v; not %d", k, got, ok, v)
		}
	}
}

func TestNoBlockBeginsThere(t *testing.T) {
	h := made(t, 64*8+63)
	for _, n := range []int{3, 3, 16, 64, 150} {
		if _, ok := h.Alloc(n); !ok {
			t.Fatalf("no place for %d words", n)
		}
	}
	blocks := []int{64, 68, 128, 192, 256}
	has(t, h, 1, blocks...)
	addresses := []int{math.MinInt, math.MinInt + 64, math.MaxInt, math.MaxInt - 63, -1 << 32, 1 << 32, 1<<32 + 64, api.MaxWords}
	for at := -200; at < 64*8+200; at++ {
		addresses = append(addresses, at)
	}
	for _, at := range addresses {
		if slices.Contains(blocks, at) {
			continue
		}
		v, ok := h.Load(at, 0)
		if h.Room(at) != 0 || v != 0 || ok || h.Store(at, 0, 7) || h.Free(at) {
			t.Errorf("a block begins at %d", at)
		}
	}
	has(t, h, 1, blocks...)
	for _, at := range blocks {
		isClear(t, h, at)
	}
}

func TestAFreedBlockIsNoMore(t *testing.T) {
	for _, n := range []int{2, 4, 8, 16, 32, 64, 65, 192} {
		for _, alone := range []bool{true, false} {
			h := made(t, 64*7)
			goes(t, h, n, 64)
			if !alone {
				goes(t, h, n, 64+h.Room(64))
			}
			fill(t, h, 64)
			ends(t, h, 64)
			if v, ok := h.Load(64, 0); v != 0 || ok {
				t.Errorf("%d words: Load answers %d, %v", n, v, ok)
			}
			if h.Free(64) || h.Room(64) != 0 || h.Store(64, 0, 1) {
				t.Errorf("%d words: the block is still there", n)
			}
			if n := len(h.Blocks()); (n == 0) != alone {
				t.Errorf("%d blocks are left", n)
			}
		}
	}
}

func TestBlocksAreNewMemory(t *testing.T) {
	h := made(t, 256)
	goes(t, h, 4, 64)
	goes(t, h, 4, 68)
	blocks := h.Blocks()
	clear(blocks[:cap(blocks)])
	has(t, h, 2, 64, 68)
}
