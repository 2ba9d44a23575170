package sweep_test

import (
	"math"
	"slices"
	"testing"

	"derrick/api"
	"derrick/heap"
	"derrick/sweep"
)

// farm is a heap with what a test does to it.
type farm struct {
	*testing.T
	*heap.Heap
}

func newFarm(t *testing.T, words int) farm {
	t.Helper()
	h := heap.New(words)
	if h == nil {
		t.Fatalf("no heap of %d words", words)
	}
	return farm{t, h}
}

// block makes a block of these words.
func (f farm) block(words ...int) int {
	f.Helper()
	at, ok := f.Alloc(len(words))
	if !ok {
		f.Fatalf("no place for %d words", len(words))
	}
	f.set(at, words...)
	return at
}

func (f farm) set(at int, words ...int) {
	f.Helper()
	for k, word := range words {
		if !f.Store(at, k, word) {
			f.Fatalf("no word %d at %d", k, at)
		}
	}
}

func (f farm) refs(words ...int) int {
	f.Helper()
	return f.block(append([]int{sweep.Header(sweep.Refs, len(words), 0)}, words...)...)
}

func (f farm) leads(at int, want ...int) {
	f.Helper()
	if got := sweep.Children(f.Heap, at); !slices.Equal(got, want) {
		f.Errorf("the children of %d: %v, not %v", at, got, want)
	}
}

// reaches asks what is reached; want needs no order.
func (f farm) reaches(roots []int, want ...int) {
	f.Helper()
	slices.Sort(want)
	if got := sweep.Reached(f.Heap, roots); !slices.Equal(got, want) {
		f.Errorf("from %v: %v, not %v", roots, got, want)
	}
}

// collects asks what is left of a collection, and that it was told how many went.
func (f farm) collects(roots []int, left ...int) {
	f.Helper()
	slices.Sort(left)
	want := len(f.Blocks()) - len(left)
	if got := sweep.Collect(f.Heap, roots); got != want {
		f.Errorf("from %v: %d freed, not %d", roots, got, want)
	}
	if got := f.Blocks(); !slices.Equal(got, left) {
		f.Errorf("from %v: %v left, not %v", roots, got, left)
	}
}

func TestExample(t *testing.T) {
	f := newFarm(t, 256)
	b := f.block(sweep.Header(sweep.Data, 0, 0))
	a := f.refs(b, 7)
	c := f.refs(0)
	f.set(c, sweep.Header(sweep.Refs, 1, 0), c)
	f.reaches([]int{a}, a, b)
	f.collects([]int{a}, a, b)
}

func TestChildrenOfEachKind(t *testing.T) {
	f := newFarm(t, 1024)
	x, y, z := f.refs(), f.refs(), f.refs()
	for _, k := range []struct {
		kind, size, mask int
		want             []int
	}{
		{sweep.Data, 3, 0, nil}, {sweep.Data, 3, 7, nil}, {sweep.Data, 0, 0, nil},
		{sweep.Refs, 3, 0, []int{x, y, z}}, {sweep.Refs, 3, 65535, []int{x, y, z}}, {sweep.Refs, 3, 1, []int{x, y, z}},
		{sweep.Refs, 2, 0, []int{x, y}}, {sweep.Refs, 1, 0, []int{x}}, {sweep.Refs, 0, 0, nil}, {sweep.Refs, 0, 65535, nil},
		{sweep.Behind, 3, 0, []int{x, y, z}}, {sweep.Behind, 3, 1, []int{y, z}}, {sweep.Behind, 3, 2, []int{z}}, {sweep.Behind, 3, 3, nil},
		{sweep.Behind, 3, 4, nil}, {sweep.Behind, 3, 65535, nil}, {sweep.Behind, 2, 1, []int{y}}, {sweep.Behind, 1, 1, nil}, {sweep.Behind, 0, 0, nil},
		{sweep.Masked, 3, 0, nil}, {sweep.Masked, 3, 1, []int{x}}, {sweep.Masked, 3, 2, []int{y}}, {sweep.Masked, 3, 4, []int{z}},
		{sweep.Masked, 3, 5, []int{x, z}}, {sweep.Masked, 3, 6, []int{y, z}}, {sweep.Masked, 3, 7, []int{x, y, z}}, {sweep.Masked, 3, 8, nil},
		{sweep.Masked, 3, 65535, []int{x, y, z}}, {sweep.Masked, 2, 7, []int{x, y}}, {sweep.Masked, 2, 4, nil}, {sweep.Masked, 0, 7, nil},
	} {
		at := f.block(sweep.Header(k.kind, k.size, k.mask), x, y, z)
		f.leads(at, k.want...)
		f.reaches([]int{at}, append([]int{at}, k.want...)...)
		f.Free(at)
	}
}

func TestAHeaderTellsNoFurtherThanTheRoom(t *testing.T) {
	f := newFarm(t, 1024)
	x := f.refs()
	for _, k := range []struct{ words, room int }{{1, 2}, {2, 2}, {3, 4}, {4, 4}, {7, 8}, {16, 16}, {17, 32}, {64, 64}, {65, 128}, {129, 192}} {
		at, _ := f.Alloc(k.words)
		beside, _ := f.Alloc(k.words)
		for i := range k.room {
			f.set(beside, sweep.Header(sweep.Refs, 1, 0), x)
			f.Store(at, i, x)
		}
		for _, size := range []int{k.room - 2, k.room - 1, k.room, k.room + 1, api.MaxSlots + 63} {
			all := slices.Repeat([]int{x}, min(size, k.room-1))
			f.Store(at, 0, sweep.Header(sweep.Refs, size, 0))
			f.leads(at, all...)
			f.Store(at, 0, sweep.Header(sweep.Behind, size, 1))
			f.leads(at, all[min(1, len(all)):]...)
			f.Store(at, 0, sweep.Header(sweep.Masked, size, 65535))
			f.leads(at, all[:min(16, len(all))]...)
			f.Store(at, 0, sweep.Header(sweep.Data, size, 65535))
			f.leads(at)
		}
		f.Free(at)
		f.Free(beside)
	}
}

func TestTheGreatestBlock(t *testing.T) {
	f := newFarm(t, api.MaxWords)
	x, y := f.refs(), f.refs()
	at, _ := f.Alloc(api.MaxSlots + 64)
	for k := range api.MaxSlots + 63 {
		f.Store(at, k+1, x)
	}
	f.Store(at, api.MaxSlots+63, y)
	all := append(slices.Repeat([]int{x}, api.MaxSlots+62), y)
	for _, k := range []struct {
		header int
		want   []int
	}{
		{sweep.Header(sweep.Refs, api.MaxSlots+63, 0), all},
		{sweep.Header(sweep.Refs, api.MaxSlots+62, 0), all[:api.MaxSlots+62]},
		{sweep.Header(sweep.Behind, api.MaxSlots+63, api.MaxSlots+62), all[api.MaxSlots+62:]},
		{sweep.Header(sweep.Behind, api.MaxSlots+63, api.MaxSlots+63), nil},
		{sweep.Header(sweep.Behind, api.MaxSlots+63, 65535), nil},
		{sweep.Header(sweep.Behind, api.MaxSlots+63, 20), all[20:]},
		{sweep.Header(sweep.Masked, api.MaxSlots+63, 65535), all[:16]},
		{sweep.Header(sweep.Masked, api.MaxSlots+63, 1<<15), all[:1]},
	} {
		f.Store(at, 0, k.header)
		f.leads(at, k.want...)
	}
	f.Store(at, 0, sweep.Header(sweep.Refs, api.MaxSlots+63, 0))
	f.reaches([]int{at}, at, x, y)
}

func TestEachBitOfAMaskIsAWord(t *testing.T) {
	f := newFarm(t, 1024)
	words := make([]int, 21)
	for k := range words {
		words[k] = f.refs()
	}
	at := f.block(append([]int{0}, words...)...)
	for bit := range 16 {
		f.Store(at, 0, sweep.Header(sweep.Masked, 21, 1<<bit))
		f.leads(at, words[bit])
		f.Store(at, 0, sweep.Header(sweep.Masked, bit, 1<<bit))
		f.leads(at)
		f.Store(at, 0, sweep.Header(sweep.Behind, 21, bit))
		f.leads(at, words[bit:]...)
	}
}

func TestWordsThatAreNoReferences(t *testing.T) {
	f := newFarm(t, 64*6)
	x := f.refs()           // 64, room 2
	y, _ := f.Alloc(64)     // 128
	z, _ := f.Alloc(65)     // 192 and the span behind
	gone := f.refs(1, 2, 3) // 320
	f.Free(gone)
	no := []int{0, 1, -1, x + 1, x - 1, x + 2, -x, y + 2, y + 32, y + 62, y + 63, z + 64, z + 2, gone, 7, 62, 63, 383, 384, 448,
		1 << 20, 1<<20 + x, 1<<32 + x, 1<<63 - 2, math.MaxInt, math.MinInt, math.MinInt + x, ^x, sweep.Header(sweep.Refs, 64, 0)}
	f.set(y, append([]int{sweep.Header(sweep.Refs, 63, 0)}, no...)...)
	f.leads(y)
	f.reaches([]int{y}, y)
	f.reaches(no)
	f.set(y, append(append([]int{sweep.Header(sweep.Refs, 63, 0), z}, no...), x)...)
	f.leads(y, z, x)
	f.reaches(append(no, x), x)
	f.collects(append(no, y), x, y, z)
	f.collects(no)
}

func TestChildrenAreToldInTheirOrder(t *testing.T) {
	f := newFarm(t, 1024)
	x, y, z := f.refs(), f.refs(), f.refs()
	at := f.refs(z, x, 0, x, 5, z, y, 0, z)
	f.leads(at, z, x, x, z, y, z)
	f.reaches([]int{at}, x, y, z, at)
	self := f.refs(0, 0)
	f.set(self, sweep.Header(sweep.Refs, 2, 0), self, self)
	f.leads(self, self, self)
}

func TestABlockWithoutAHeaderTellsOfNone(t *testing.T) {
	f := newFarm(t, 1024)
	x := f.refs()
	at := f.block(0, x, x, x)
	right := sweep.Header(sweep.Refs, 3, 0)
	for _, word := range []int{0, -1, 1, 2, 3, 4, x, at, 64, -right, ^right, math.MinInt | right, math.MinInt, math.MaxInt} {
		f.Store(at, 0, word)
		f.leads(at)
		f.reaches([]int{at}, at)
	}
	f.Store(at, 0, right)
	f.leads(at, x, x, x)
}

func TestNoChildrenWhereThereIsNoBlock(t *testing.T) {
	f := newFarm(t, 256)
	at := f.refs(64, 64, 64)
	f.set(at, sweep.Header(sweep.Refs, 3, 0), at, sweep.Header(sweep.Refs, 1, 0), at)
	for _, no := range []int{0, 1, -1, at - 1, at + 1, at + 2, at + 4, -at, 63, 128, 255, 256, 258, api.MaxWords, math.MaxInt, math.MaxInt - 1, math.MinInt} {
		f.leads(no)
	}
	f.Free(at)
	f.leads(at)
}

func TestRoots(t *testing.T) {
	f := newFarm(t, 1024)
	c := f.refs()
	b := f.refs(c)
	a := f.refs(b, c)
	e := f.block(sweep.Header(sweep.Data, 4, 0), a, b, c, a)
	d := f.refs(e, a)
	f.reaches(nil)
	f.reaches([]int{})
	f.reaches([]int{0, 1, -1, a + 1, 999998, math.MinInt, math.MaxInt})
	f.reaches([]int{c}, c)
	f.reaches([]int{c, c, c}, c)
	f.reaches([]int{b}, b, c)
	f.reaches([]int{a}, a, b, c)
	f.reaches([]int{c, a, a, c}, a, b, c)
	f.reaches([]int{3, a, 0}, a, b, c)
	f.reaches([]int{d}, a, b, c, d, e)
	f.reaches([]int{e, b}, b, c, e)
}

func TestRings(t *testing.T) {
	f := newFarm(t, 1024)
	self := f.refs(0)
	f.set(self, sweep.Header(sweep.Refs, 1, 0), self)
	a, b, c := f.refs(0), f.refs(0), f.refs(0)
	for _, x := range [][2]int{{a, b}, {b, c}, {c, a}} {
		f.Store(x[0], 1, x[1])
	}
	tail := f.refs(a)
	for _, root := range []int{a, b, c} {
		f.reaches([]int{root}, a, b, c)
	}
	f.reaches([]int{self}, self)
	f.reaches([]int{tail}, a, b, c, tail)
	f.collects([]int{b, self}, a, b, c, self)
	f.collects([]int{self}, self)
	f.collects(nil)
}

func TestAChainAsLongAsTheHeap(t *testing.T) {
	f := newFarm(t, api.MaxWords)
	header := sweep.Header(sweep.Refs, 1, 0)
	var all []int
	for at, ok := f.Alloc(2); ok; at, ok = f.Alloc(2) {
		f.Store(at, 0, header)
		if len(all) > 0 {
			f.Store(all[len(all)-1], 1, at)
		}
		all = append(all, at)
	}
	if len(all) != (api.MaxWords-64)/2 {
		t.Fatalf("%d blocks", len(all))
	}
	half := len(all) / 2
	for _, from := range []int{0, half, len(all) - 1} {
		if got := sweep.Reached(f.Heap, all[from:from+1]); !slices.Equal(got, all[from:]) {
			t.Errorf("%d are reached from the block %d", len(got), from)
		}
	}
	if n := sweep.Collect(f.Heap, all[half:half+1]); n != half || !slices.Equal(f.Blocks(), all[half:]) {
		t.Errorf("%d freed, not %d", n, half)
	}
	f.Store(all[len(all)-1], 1, all[half])
	if n := sweep.Collect(f.Heap, all[len(all)-1:]); n != 0 {
		t.Errorf("%d of a ring freed", n)
	}
	if n := sweep.Collect(f.Heap, nil); n != len(all)-half || f.Spans() != 16383 {
		t.Errorf("%d freed, %d spans free", n, f.Spans())
	}
}

func TestWhatIsFreedCanBeHadAgain(t *testing.T) {
	f := newFarm(t, 256)
	var blocks []int
	for range 12 {
		blocks = append(blocks, f.block(sweep.Header(sweep.Data, 15, 0), 5, 6, 7, 8, 9, 10, 11, 12, 13, 14, 15, 16, 17, 18, 19))
	}
	if _, ok := f.Alloc(16); ok {
		t.Fatal("the heap isn't full")
	}
	kept := []int{blocks[2], blocks[7]}
	f.collects(kept, kept...)
	if f.Spans() != 1 {
		t.Errorf("%d spans free", f.Spans())
	}
	for _, at := range kept {
		for k := 1; k < 16; k++ {
			if word, _ := f.Load(at, k); word != k+4 {
				t.Errorf("the word %d of %d is %d", k, at, word)
			}
		}
	}
	for _, at := range blocks {
		if slices.Contains(kept, at) {
			continue
		}
		if got, ok := f.Alloc(16); got != at || !ok {
			t.Errorf("Alloc: %d, %v; not %d", got, ok, at)
		}
		if word, _ := f.Load(at, 3); word != 0 {
			t.Errorf("an old word: %d", word)
		}
	}
}

func TestAnEmptyHeap(t *testing.T) {
	f := newFarm(t, 128)
	f.reaches(nil)
	f.reaches([]int{64, 66})
	f.leads(64)
	f.collects(nil)
	f.collects([]int{64, 0, -2})
}

func TestNothingIsChangedButByCollect(t *testing.T) {
	f := newFarm(t, 256)
	x := f.refs()
	a := f.refs(x, x, 3)
	words := func() (all []int) {
		for _, at := range f.Blocks() {
			for k := range f.Room(at) {
				word, _ := f.Load(at, k)
				all = append(all, at, word)
			}
		}
		return all
	}
	before := words()
	roots := append(make([]int, 0, 9), a, 3, x, a)[:3]
	first, second := sweep.Children(f.Heap, a), sweep.Children(f.Heap, a)
	clear(first[:cap(first)])
	if !slices.Equal(second, []int{x, x}) {
		t.Error("two answers share memory")
	}
	first, second = sweep.Reached(f.Heap, roots), sweep.Reached(f.Heap, roots)
	clear(first[:cap(first)])
	if !slices.Equal(second, []int{x, a}) {
		t.Error("two answers share memory")
	}
	if n := sweep.Collect(f.Heap, roots); n != 0 {
		t.Errorf("%d freed", n)
	}
	if !slices.Equal(words(), before) || !slices.Equal(roots[:5], []int{a, 3, x, a, 0}) {
		t.Error("something was changed")
	}
}

func TestHeapsAreApart(t *testing.T) {
	f, g := newFarm(t, 256), newFarm(t, 256)
	a := f.refs()
	if b := g.refs(); a != b {
		t.Fatal(a, b)
	}
	f.collects(nil)
	g.reaches([]int{a}, a)
}
