package heap_test

import (
	"maps"
	"math/rand"
	"slices"
	"testing"

	"derrick/heap"
)

// plain is the heap's second way: nothing but the list of blocks is kept, and each question is answered by going through all of it.
type plain struct {
	spans  int
	blocks map[int][]int
}

func (p *plain) at(span int) (starts []int) {
	for at, words := range p.blocks {
		if at < 64*span+64 && at+len(words) > 64*span {
			starts = append(starts, at)
		}
	}
	return starts
}

func (p *plain) free() int {
	n := 0
	for s := 1; s < p.spans; s++ {
		if len(p.at(s)) == 0 {
			n++
		}
	}
	return n
}

func (p *plain) alloc(n int) (int, bool) {
	if n < 1 || n > 16384+64 {
		return 0, false
	}
	room := (n + 63) / 64 * 64
	for _, class := range []int{32, 16, 8, 4, 2} {
		if n <= class {
			room = class
		}
	}
	at, ok := p.placeBeside(room)
	if !ok {
		at, ok = p.placeInFree((room + 63) / 64)
	}
	if ok {
		p.blocks[at] = make([]int, room)
	}
	return at, ok
}

func (p *plain) placeBeside(room int) (int, bool) {
	for at := 64; at < 64*p.spans; at += 2 {
		_, taken := p.blocks[at]
		beside := p.at(at / 64)
		if at%room == 0 && room <= 32 && !taken && len(beside) > 0 && len(p.blocks[beside[0]]) == room {
			return at, true
		}
	}
	return 0, false
}

func (p *plain) placeInFree(count int) (int, bool) {
	for first := 1; first+count <= p.spans; first++ {
		taken := 0
		for s := first; s < first+count; s++ {
			taken += len(p.at(s))
		}
		if taken == 0 {
			return 64 * first, true
		}
	}
	return 0, false
}

// player plays one thing after another on both heaps.
type player struct {
	t      *testing.T
	rnd    *rand.Rand
	h      *heap.Heap
	p      plain
	failed bool
}

func (y *player) fail(what string, args ...any) {
	y.t.Helper()
	y.t.Errorf(what, args...)
	y.failed = true
}

func (y *player) alloc(n int) {
	at, ok := y.h.Alloc(n)
	if wantAt, wantOk := y.p.alloc(n); at != wantAt || ok != wantOk {
		y.fail("Alloc(%d) = %d, %v; not %d, %v", n, at, ok, wantAt, wantOk)
	}
}

func (y *player) end(at int) {
	_, want := y.p.blocks[at]
	delete(y.p.blocks, at)
	if got := y.h.Free(at); got != want {
		y.fail("Free(%d) = %v", at, got)
	}
}

func (y *player) store(at, k, v int) {
	words := y.p.blocks[at]
	want := k >= 0 && k < len(words)
	if want {
		words[k] = v
	}
	if got := y.h.Store(at, k, v); got != want {
		y.fail("Store(%d, %d, %d) = %v", at, k, v, got)
	}
}

// anyAt is mostly a block's address.
func (y *player) anyAt() int {
	blocks := slices.Sorted(maps.Keys(y.p.blocks))
	if len(blocks) == 0 || y.rnd.Intn(10) == 0 {
		return y.rnd.Intn(64*y.p.spans+200) - 100
	}
	return blocks[y.rnd.Intn(len(blocks))]
}

func (y *player) anySize() int {
	switch y.rnd.Intn(8) {
	case 0:
		return 65 + y.rnd.Intn(300)
	case 1:
		return 1<<y.rnd.Intn(7) + y.rnd.Intn(3) - 1
	}
	return 1 + y.rnd.Intn(40)
}

func (y *player) move(frees int) {
	switch n := y.rnd.Intn(10); {
	case n < frees:
		y.end(y.anyAt())
	case n < 8:
		y.alloc(y.anySize())
	default:
		at := y.anyAt()
		y.store(at, y.rnd.Intn(len(y.p.blocks[at])+2)-1, y.rnd.Int()-y.rnd.Int())
	}
}

func (y *player) agree() {
	if got, want := y.h.Blocks(), slices.Sorted(maps.Keys(y.p.blocks)); !slices.Equal(got, want) {
		y.fail("blocks %v, not %v", got, want)
	}
	if got, want := y.h.Spans(), y.p.free(); got != want {
		y.fail("%d spans free, not %d", got, want)
	}
	for at := -3; at < 64*y.p.spans+67; at++ {
		if got := y.h.Room(at); got != len(y.p.blocks[at]) {
			y.fail("Room(%d) = %d", at, got)
		}
	}
	for at, words := range y.p.blocks {
		for k, want := range words {
			if got, ok := y.h.Load(at, k); got != want || !ok {
				y.fail("Load(%d, %d) = %d, %v; not %d", at, k, got, ok, want)
			}
		}
	}
}

func TestPlaysByChanceAgreeWithThePlainHeap(t *testing.T) {
	for seed := range 60 {
		rnd := rand.New(rand.NewSource(int64(seed)))
		words := 128 + rnd.Intn(1500)
		y := player{t: t, rnd: rnd, h: made(t, words), p: plain{spans: words / 64, blocks: map[int][]int{}}}
		frees := 2
		for i := 0; i < 400 && !y.failed; i++ {
			if i%40 == 39 {
				frees = 1 + rnd.Intn(6)
			}
			y.move(frees)
			if i%5 == 4 {
				y.agree()
			}
		}
		if y.failed {
			t.Fatalf("seed %d, %d words", seed, words)
		}
	}
}

func TestLongPlaysAgreeWithThePlainHeap(t *testing.T) {
	rnd := rand.New(rand.NewSource(7))
	y := player{t: t, rnd: rnd, h: made(t, 64*140), p: plain{spans: 140, blocks: map[int][]int{}}}
	for i := 0; i < 600 && !y.failed; i++ {
		if i < 300 {
			y.alloc(20 + rnd.Intn(100))
		} else {
			y.move(5)
		}
		if i%50 == 49 {
			y.agree()
		}
	}
}

func TestSameTellsSame(t *testing.T) {
	play := func() (told []int) {
		rnd := rand.New(rand.NewSource(3))
		h := made(t, 2000)
		for range 500 {
			at, _ := h.Alloc(1 + rnd.Intn(90))
			told = append(told, at)
			if blocks := h.Blocks(); rnd.Intn(2) == 0 {
				h.Free(blocks[rnd.Intn(len(blocks))])
			}
		}
		return append(told, h.Blocks()...)
	}
	if !slices.Equal(play(), play()) {
		t.Error("the same play told other things")
	}
}
