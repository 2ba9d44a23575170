package heap_test

import (
	"math"
	"slices"
	"testing"

	"derrick/api"
	"derrick/heap"
)

// made makes a heap that must be there.
func made(t *testing.T, words int) *heap.Heap {
	t.Helper()
	h := heap.New(words)
	if h == nil {
		t.Fatalf("New(%d) is nil", words)
	}
	return h
}

func goes(t *testing.T, h *heap.Heap, n, want int) {
	t.Helper()
	if at, ok := h.Alloc(n); at != want || !ok {
		t.Errorf("Alloc(%d) = %d, %v; not %d", n, at, ok, want)
	}
}

func noPlace(t *testing.T, h *heap.Heap, n int) {
	t.Helper()
	if at, ok := h.Alloc(n); at != 0 || ok {
		t.Errorf("Alloc(%d) = %d, %v; not 0, false", n, at, ok)
	}
}

func ends(t *testing.T, h *heap.Heap, at int) {
	t.Helper()
	if !h.Free(at) {
		t.Errorf("Free(%d) is false", at)
	}
}

func has(t *testing.T, h *heap.Heap, spans int, blocks ...int) {
	t.Helper()
	if got := h.Blocks(); !slices.Equal(got, blocks) || h.Spans() != spans {
		t.Errorf("blocks %v, %d spans free; not %v, %d", got, h.Spans(), blocks, spans)
	}
}

func TestExample(t *testing.T) {
	h := made(t, 256)
	goes(t, h, 3, 64)
	if h.Room(64) != 4 {
		t.Errorf("Room(64) = %d", h.Room(64))
	}
	goes(t, h, 4, 68)
	goes(t, h, 2, 128)
	noPlace(t, h, 65)
	ends(t, h, 64)
	goes(t, h, 1, 130)
	goes(t, h, 3, 64)
	has(t, h, 1, 64, 68, 128, 130)
}

func TestNewHeapIsEmpty(t *testing.T) {
	for _, x := range []struct{ words, spans int }{
		{128, 1}, {129, 1}, {191, 1}, {192, 2}, {255, 2}, {256, 3}, {1000, 14},
		{64*64 - 1, 62}, {64 * 64, 63}, {64 * 65, 64}, {64 * 66, 65}, {64*129 + 1, 128},
		{api.MaxWords - 64, 16382}, {api.MaxWords - 1, 16382}, {api.MaxWords, 16383},
	} {
		h := made(t, x.words)
		has(t, h, x.spans)
		if h.Room(0) != 0 || h.Room(64) != 0 || h.Free(64) || h.Store(64, 0, 1) {
			t.Errorf("New(%d): there is a block", x.words)
		}
	}
}

func TestNoHeap(t *testing.T) {
	for _, words := range []int{math.MinInt, -128, -1, 0, 1, 63, 64, 65, 127, api.MaxWords + 1, api.MaxWords + 64, math.MaxInt} {
		if heap.New(words) != nil {
			t.Errorf("New(%d) is a heap", words)
		}
	}
}

func TestHeapsAreApart(t *testing.T) {
	a, b := made(t, 256), made(t, 256)
	goes(t, a, 8, 64)
	a.Store(64, 0, 5)
	has(t, b, 3)
	goes(t, b, 8, 64)
	if v, ok := b.Load(64, 0); v != 0 || !ok {
		t.Errorf("another heap's word: %d, %v", v, ok)
	}
}

func TestRoomIsTheLeastThatIsEnough(t *testing.T) {
	for _, x := range []struct{ n, room int }{
		{1, 2}, {2, 2}, {3, 4}, {4, 4}, {5, 8}, {7, 8}, {8, 8}, {9, 16}, {15, 16}, {16, 16}, {17, 32}, {31, 32}, {32, 32},
		{33, 64}, {63, 64}, {64, 64}, {65, 128}, {127, 128}, {128, 128}, {129, 192}, {192, 192}, {193, 256},
		{api.MaxSlots, 16384}, {api.MaxSlots + 1, 16448}, {api.MaxSlots + 63, 16448}, {api.MaxSlots + 64, 16448},
	} {
		h := made(t, 16448+64)
		goes(t, h, x.n, 64)
		if got := h.Room(64); got != x.room {
			t.Errorf("for %d words: room %d, not %d", x.n, got, x.room)
		}
		has(t, h, 257-(x.room+63)/64, 64)
	}
}

func TestNoBlockOfThatManyWords(t *testing.T) {
	h := made(t, api.MaxWords)
	for _, n := range []int{math.MinInt, -64, -1, 0, api.MaxSlots + 65, api.MaxSlots + 128, api.MaxWords, math.MaxInt - 62, math.MaxInt} {
		noPlace(t, h, n)
	}
	has(t, h, 16383)
}

func TestEachClassFillsItsSpan(t *testing.T) {
	for room := 2; room <= 64; room *= 2 {
		h := made(t, 192)
		for at := 64; at < 192; at += room {
			goes(t, h, room, at)
			if want := (192 - 1 - at) / 64; at%64 == 0 && h.Spans() != want {
				t.Errorf("room %d: %d spans free at %d, not %d", room, h.Spans(), at, want)
			}
		}
		noPlace(t, h, room)
		noPlace(t, h, 1)
		noPlace(t, h, 65)
		for at := 128 - room; at >= 64; at -= room {
			ends(t, h, at)
		}
		if h.Spans() != 1 {
			t.Errorf("room %d: %d spans free behind the frees", room, h.Spans())
		}
		noPlace(t, h, 65)
		goes(t, h, 64, 64)
	}
}

func TestBlocksOfSeveralSpans(t *testing.T) {
	h := made(t, 64*8)
	goes(t, h, 129, 64)
	goes(t, h, 65, 256)
	has(t, h, 2, 64, 256)
	noPlace(t, h, 129)
	goes(t, h, 128, 384)
	has(t, h, 0, 64, 256, 384)
	for _, at := range []int{128, 192, 320, 448, 66, 65} {
		if h.Room(at) != 0 || h.Free(at) || h.Store(at, 0, 1) {
			t.Errorf("a block begins at %d", at)
		}
	}
	ends(t, h, 256)
	goes(t, h, 2, 256)
	noPlace(t, h, 65)
	ends(t, h, 64)
	goes(t, h, 65, 64)
	has(t, h, 2, 64, 256, 384)
	noPlace(t, h, 65)
	goes(t, h, 64, 192)
	ends(t, h, 256)
	goes(t, h, 65, 256)
	has(t, h, 0, 64, 192, 256, 384)
}

func TestARowTakesTheLowestPlaceThatIsEnough(t *testing.T) {
	h := made(t, 64*12)
	for s := 1; s < 12; s++ {
		goes(t, h, 64, 64*s)
	}
	for _, s := range []int{1, 3, 4, 6, 7, 8, 10, 11} {
		ends(t, h, 64*s)
	}
	noPlace(t, h, 193)
	goes(t, h, 192, 64*6)
	goes(t, h, 100, 64*3)
	goes(t, h, 100, 64*10)
	noPlace(t, h, 65)
	goes(t, h, 5, 64)
}

func TestTheLongestBlock(t *testing.T) {
	h := made(t, api.MaxWords)
	for i := range 63 {
		goes(t, h, api.MaxSlots+64, 64+i*16448)
	}
	noPlace(t, h, api.MaxSlots+64)
	if h.Spans() != 16383-63*257 {
		t.Errorf("%d spans free", h.Spans())
	}
	noPlace(t, made(t, 16448), api.MaxSlots+64)
	noPlace(t, made(t, 16448+63), api.MaxSlots+64)
	goes(t, made(t, 16448), api.MaxSlots, 64)
	goes(t, made(t, 16448+64), api.MaxSlots+64, 64)
}

func TestAFullHeap(t *testing.T) {
	h := made(t, 128)
	for at := 64; at < 128; at += 4 {
		goes(t, h, 3, at)
	}
	for _, n := range []int{1, 3, 4, 5, 64, 65} {
		noPlace(t, h, n)
	}
	for at := 64; at < 128; at += 4 {
		if v, ok := h.Load(at, 3); v != 0 || !ok {
			t.Errorf("the word 3 of %d: %d, %v", at, v, ok)
		}
	}
	ends(t, h, 100)
	for _, n := range []int{2, 5, 64} {
		noPlace(t, h, n)
	}
	goes(t, h, 4, 100)
	noPlace(t, h, 4)
}

func TestTheGreatestHeapIsFilled(t *testing.T) {
	h := made(t, api.MaxWords)
	for at := 64; at < api.MaxWords; at += 64 {
		goes(t, h, 64, at)
	}
	noPlace(t, h, 1)
	for _, at := range []int{api.MaxWords - 64, 64 * 64, 64 * 63, 64 * 5000} {
		ends(t, h, at)
	}
	for _, at := range []int{64 * 63, 64 * 64, 64 * 5000, api.MaxWords - 64} {
		goes(t, h, 33, at)
	}
	noPlace(t, h, 1)
}

func TestTheLowestFreePlaceIsTakenFirst(t *testing.T) {
	for _, frees := range [][]int{{72, 136, 200}, {200, 136, 72}, {136, 200, 72}, {136, 72, 200}} {
		h := made(t, 64*4)
		for at := 64; at < 256; at += 8 {
			goes(t, h, 8, at)
		}
		for _, at := range frees {
			ends(t, h, at)
		}
		goes(t, h, 5, 72)
		goes(t, h, 8, 136)
		goes(t, h, 6, 200)
		noPlace(t, h, 8)
	}
}

func TestAPlaceInASpanOfItsClassGoesAheadOfALowerFreeSpan(t *testing.T) {
	h := made(t, 64*5)
	goes(t, h, 64, 64)
	goes(t, h, 8, 128)
	goes(t, h, 64, 192)
	ends(t, h, 64)
	goes(t, h, 8, 136)
	goes(t, h, 16, 64)
	goes(t, h, 4, 256)
	has(t, h, 0, 64, 128, 136, 192, 256)
}

func TestASpanGetsAnotherClass(t *testing.T) {
	h := made(t, 192)
	goes(t, h, 2, 64)
	goes(t, h, 2, 66)
	goes(t, h, 64, 128)
	ends(t, h, 64)
	noPlace(t, h, 16)
	ends(t, h, 66)
	has(t, h, 1, 128)
	goes(t, h, 16, 64)
	noPlace(t, h, 2)
	goes(t, h, 16, 80)
	if h.Room(64) != 16 || h.Room(66) != 0 || h.Free(66) {
		t.Error("the span's earlier class is still seen")
	}
	ends(t, h, 80)
	ends(t, h, 64)
	ends(t, h, 128)
	goes(t, h, 128, 64)
	ends(t, h, 64)
	has(t, h, 2)
	goes(t, h, 1, 64)
	goes(t, h, 33, 128)
}
