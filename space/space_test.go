package space_test

import (
	"math"
	"slices"
	"testing"

	"derrick/api"
	"derrick/space"
	"derrick/sweep"
)

// room is a space with what a test does to it and asks of it.
type room struct {
	*testing.T
	*space.Space
}

func newRoom(t *testing.T, words int) room {
	t.Helper()
	s := space.New(words)
	if s == nil {
		t.Fatalf("no space of %d words", words)
	}
	return room{t, s}
}

// made makes a block that must be there.
func (r room) made(kind, size, mask int) int {
	r.Helper()
	at, ok := r.Make(kind, size, mask)
	if !ok {
		r.Fatalf("Make(%d, %d, %d) is false", kind, size, mask)
	}
	return at
}

// refs makes a block of these words.
func (r room) refs(words ...int) int {
	r.Helper()
	at := r.made(sweep.Refs, len(words), 0)
	for k, word := range words {
		if !r.Set(at, k, word) {
			r.Fatalf("Set(%d, %d, %d) is false", at, k, word)
		}
	}
	return at
}

// goes asks where a block is made.
func (r room) goes(size, want int) {
	r.Helper()
	if at, ok := r.Make(sweep.Refs, size, 0); at != want || !ok {
		r.Errorf("a block of %d words: %d, %v; not %d", size, at, ok, want)
	}
}

func (r room) noPlace(kind, size, mask int) {
	r.Helper()
	if at, ok := r.Make(kind, size, mask); at != 0 || ok {
		r.Errorf("Make(%d, %d, %d) = %d, %v", kind, size, mask, at, ok)
	}
}

// tells asks for Told's three numbers.
func (r room) tells(blocks, collections, spans int) {
	r.Helper()
	if b, c, s := r.Told(); b != blocks || c != collections || s != spans {
		r.Errorf("told %d, %d, %d; not %d, %d, %d", b, c, s, blocks, collections, spans)
	}
}

func (r room) collects(freed int) {
	r.Helper()
	if n := r.Collect(); n != freed {
		r.Errorf("%d were freed, not %d", n, freed)
	}
}

func (r room) heads(at, kind, size, mask int) {
	r.Helper()
	if k, n, m := r.Head(at); k != kind || n != size || m != mask {
		r.Errorf("Head(%d) = %d, %d, %d; not %d, %d, %d", at, k, n, m, kind, size, mask)
	}
}

// isThere asks which of some addresses are those of blocks.
func (r room) isThere(want bool, places ...int) {
	r.Helper()
	for _, at := range places {
		if kind, _, _ := r.Head(at); (kind != 0) != want {
			r.Errorf("a block at %d: %v", at, !want)
		}
	}
}

// has asks for all words of a block.
func (r room) has(at int, words ...int) {
	r.Helper()
	for k, want := range words {
		if got := r.Get(at, k); got != want {
			r.Errorf("Get(%d, %d) = %d, not %d", at, k, got, want)
		}
	}
	if _, size, _ := r.Head(at); size != len(words) {
		r.Errorf("the block at %d has %d words, not %d", at, size, len(words))
	}
}

// none are places where no block begins, in a space of 256 words with blocks at 64 (of 8 words) and 128 (of several spans).
var none = []int{0, 1, 2, 62, 63, 65, 66, 68, 70, 71, 72, 80, 127, 129, 130, 132, 160, 191, 192, 194, 255, 256, 258, 320, 1 << 20, 1<<32 + 64,
	-1, -2, -63, -64, -128, math.MaxInt, math.MaxInt - 1, math.MinInt, math.MinInt + 64}

func TestExample(t *testing.T) {
	r := newRoom(t, 128)
	for k := range 8 {
		r.goes(7, 64+8*k)
		r.tells(k+1, 0, 0)
	}
	r.goes(7, 64)
	r.tells(1, 1, 0)
	r.isThere(true, 64)
	r.isThere(false, 72, 80, 88, 96, 104, 112, 120)
}

func TestExampleWithHeldOnes(t *testing.T) {
	r := newRoom(t, 128)
	for range 8 {
		r.made(sweep.Data, 7, 0)
	}
	r.Hold(80)
	r.Hold(120)
	r.goes(7, 64)
	r.tells(3, 1, 0)
	r.isThere(true, 64, 80, 120)
	r.isThere(false, 72, 88, 96, 104, 112)
}

func TestNewSpaceIsEmpty(t *testing.T) {
	for _, x := range []struct{ words, spans int }{{128, 1}, {129, 1}, {191, 1}, {192, 2}, {1024, 15}, {api.MaxWords - 1, 16382}, {api.MaxWords, 16383}} {
		r := newRoom(t, x.words)
		r.tells(0, 0, x.spans)
		r.isThere(false, none...)
		r.isThere(false, 64, 128)
		if r.Roots != nil {
			t.Error("Roots is set")
		}
		r.collects(0)
		r.tells(0, 1, x.spans)
		r.goes(7, 64)
		r.tells(1, 1, x.spans-1)
	}
}

func TestNoSpace(t *testing.T) {
	for _, words := range []int{math.MinInt, -128, -1, 0, 1, 64, 127, api.MaxWords + 1, api.MaxWords + 64, math.MaxInt} {
		if space.New(words) != nil {
			t.Errorf("New(%d) is a space", words)
		}
	}
}

func TestSpacesAreApart(t *testing.T) {
	a, b := newRoom(t, 256), newRoom(t, 256)
	at := a.refs(5, 6)
	a.Hold(at)
	b.tells(0, 0, 3)
	b.isThere(false, at)
	other := b.refs(7, 8)
	b.collects(1)
	if at != other {
		t.Errorf("%d, %d", at, other)
	}
	a.tells(1, 0, 2)
	a.has(at, 5, 6)
}

func TestMakeIsAHeaderAndZeros(t *testing.T) {
	for _, x := range []struct{ kind, size, mask, spans int }{
		{sweep.Data, 0, 0, 1}, {sweep.Data, 1, 0, 1}, {sweep.Data, 2, 65535, 1}, {sweep.Refs, 3, 0, 1}, {sweep.Refs, 7, 1, 1}, {sweep.Refs, 8, 0, 1},
		{sweep.Behind, 5, 1, 1}, {sweep.Behind, 5, 65535, 1}, {sweep.Behind, 0, 4, 1}, {sweep.Masked, 16, 65535, 1}, {sweep.Masked, 16, 1 << 15, 1},
		{sweep.Masked, 3, 5, 1}, {sweep.Refs, 62, 0, 1}, {sweep.Refs, 63, 0, 1}, {sweep.Refs, 64, 0, 2}, {sweep.Data, 127, 0, 2}, {sweep.Data, 128, 0, 3},
		{sweep.Refs, api.MaxSlots, 0, 257}, {sweep.Behind, api.MaxSlots + 63, 20, 257},
	} {
		r := newRoom(t, 64*300)
		at := r.made(x.kind, x.size, x.mask)
		if at != 64 {
			t.Errorf("%+v: at %d", x, at)
		}
		r.heads(at, x.kind, x.size, x.mask)
		r.has(at, make([]int, x.size)...)
		r.tells(1, 0, 299-x.spans)
	}
}

func TestMakeOfNoHeader(t *testing.T) {
	r := newRoom(t, 128)
	for k := range 8 {
		r.goes(7, 64+8*k)
	}
	asked := 0
	r.Roots = func(yield func(int)) { asked++ }
	for _, x := range [][3]int{
		{0, 3, 0}, {5, 3, 0}, {-1, 3, 0}, {math.MaxInt, 3, 0}, {math.MinInt, 3, 0},
		{sweep.Refs, -1, 0}, {sweep.Refs, api.MaxSlots + 64, 0}, {sweep.Data, math.MaxInt, 0}, {sweep.Data, math.MinInt, 0},
		{sweep.Refs, 3, -1}, {sweep.Masked, 3, 1 << 16}, {sweep.Behind, 3, math.MaxInt}, {sweep.Data, 3, math.MinInt}, {0, 0, 0}, {0, -1, -1},
	} {
		r.noPlace(x[0], x[1], x[2])
		r.tells(8, 0, 0)
	}
	if asked != 0 {
		t.Errorf("Roots was asked %d times", asked)
	}
}

func TestMakeOfASizeThatIsNowhere(t *testing.T) {
	r := newRoom(t, 256)
	a, b := r.refs(1), r.refs(2)
	r.Hold(b)
	r.noPlace(sweep.Data, 300, 0)
	r.tells(1, 1, 2)
	r.isThere(false, a)
	r.has(b, 2)
	r.noPlace(sweep.Data, 128, 0) // two spans are free, three are wanted
	r.tells(1, 2, 2)
	r.noPlace(sweep.Refs, api.MaxSlots+63, 0)
	r.tells(1, 3, 2)
	r.goes(127, 128)
	r.tells(2, 3, 0)
	r.noPlace(sweep.Refs, 192, 0)
	r.tells(1, 4, 2)
	r.Drop(1)
	r.goes(128, 64)
	r.tells(1, 5, 0)
	r.noPlace(sweep.Refs, 192, 0)
	r.tells(0, 6, 3)
}

// TestAFullSpace asks what a collection leaves room for, whoever tells what is still wanted.
func TestAFullSpace(t *testing.T) {
	places := []int{64, 72, 80, 88, 96, 104, 112, 120}
	for _, x := range []struct{ held, told []int }{
		{nil, nil}, {[]int{64}, nil}, {nil, []int{64}}, {[]int{120, 64}, nil}, {[]int{120}, []int{64}}, {nil, []int{120, 64, 120}},
		{[]int{72}, []int{72}}, {places[:7], nil}, {places[1:], nil}, {places[4:], places[:3]}, {places, nil}, {nil, places}, {places[:5], places[3:]},
	} {
		for _, size := range []int{7, 3, 63} {
			r := newRoom(t, 128)
			for k, at := range places {
				r.goes(7, at)
				r.Set(at, k%7, 10+k)
			}
			asked := 0
			if x.told != nil {
				r.Roots = func(yield func(int)) {
					asked++
					for _, w := range x.told {
						yield(w)
					}
				}
			}
			kept := map[int]bool{}
			for _, w := range x.held {
				kept[w] = true
				r.Hold(w)
			}
			for _, w := range x.told {
				kept[w] = true
			}
			r.fills(places, kept, size)
			if want := min(1, len(x.told)); asked != want {
				t.Errorf("%+v: Roots was asked %d times, not %d", x, asked, want)
			}
			if t.Failed() {
				t.Fatalf("%+v, %d words", x, size)
			}
		}
	}
}

// fills makes one more block in a full space, of which some blocks must be kept.
func (r room) fills(places []int, kept map[int]bool, size int) {
	r.Helper()
	lowest := 0
	if size == 7 || len(kept) == 0 { // a span with a block in it keeps its class
		isLeft := func(at int) bool { return !kept[at] }
		if k := slices.IndexFunc(places, isLeft); k >= 0 {
			lowest = places[k]
		}
	}
	count := len(kept)
	at, ok := r.Make(sweep.Refs, size, 0)
	if at != lowest || ok != (lowest != 0) {
		r.Errorf("at %d, %v; not %d", at, ok, lowest)
	}
	if ok {
		r.has(at, make([]int, size)...)
		count++
	}
	spans := 0
	if count == 0 {
		spans = 1
	}
	r.tells(count, 1, spans)
	for k, at := range places {
		if kept[at] {
			r.heads(at, sweep.Refs, 7, 0)
			if got := r.Get(at, k%7); got != 10+k {
				r.Errorf("the word of %d is %d", at, got)
			}
		} else if at != lowest {
			r.isThere(false, at)
		}
	}
}

func TestANewBlockIsZerosWhereAFreedOneWas(t *testing.T) {
	for _, sizes := range [][2]int{{7, 7}, {7, 4}, {4, 7}, {3, 2}, {1, 0}, {63, 63}, {63, 32}, {63, 7}, {7, 63}, {200, 200}, {200, 63}, {63, 200}, {300, 250}} {
		r := newRoom(t, 512)
		at := r.made(sweep.Refs, sizes[0], 0)
		for k := range sizes[0] {
			r.Set(at, k, -1-k)
		}
		r.collects(1)
		if again := r.made(sweep.Masked, sizes[1], 3); again != at {
			t.Errorf("%v: %d, then %d", sizes, at, again)
		}
		r.heads(at, sweep.Masked, sizes[1], 3)
		r.has(at, make([]int, sizes[1])...)
	}
}

func TestGetAndSetAtEveryWord(t *testing.T) {
	for _, size := range []int{0, 1, 2, 3, 4, 5, 6, 7, 8, 14, 15, 16, 17, 30, 31, 32, 62, 63, 64, 65, 126, 127, 128, 500} {
		r := newRoom(t, 64*40)
		ahead := r.made(sweep.Data, size, 0)
		at := r.made(sweep.Behind, size, 2)
		behind := r.made(sweep.Data, size, 0)
		words := make([]int, size)
		for k := -1; k <= size; k++ {
			v := k*k - 1000
			if k == 0 {
				v = math.MinInt
			}
			is := k >= 0 && k < size
			if got := r.Set(at, k, v); got != is {
				t.Errorf("size %d: Set(%d) = %v", size, k, got)
			}
			if is {
				words[k] = v
			} else if got := r.Get(at, k); got != 0 {
				t.Errorf("size %d: Get(%d) = %d", size, k, got)
			}
			r.has(at, words...)
		}
		r.heads(at, sweep.Behind, size, 2)
		for _, beside := range []int{ahead, behind} {
			r.has(beside, make([]int, size)...)
			r.heads(beside, sweep.Data, size, 0)
		}
		for _, k := range []int{-2, -64, size + 1, size + 2, size + 64, 1 << 20, math.MaxInt, math.MaxInt - 1, math.MaxInt - at, math.MinInt, math.MinInt + 1, -at, -at - 1} {
			if r.Set(at, k, 5) || r.Get(at, k) != 0 {
				t.Errorf("size %d: there is a word %d", size, k)
			}
		}
		r.has(at, words...)
	}
}

func TestWhereNoBlockBegins(t *testing.T) {
	r := newRoom(t, 256)
	header := sweep.Header(sweep.Refs, 3, 0)
	a := r.refs(header, header, header, header, header, header, header)
	b := r.made(sweep.Refs, 100, 0)
	for k := range 100 {
		r.Set(b, k, header)
	}
	if a != 64 || b != 128 {
		t.Fatal(a, b)
	}
	for _, at := range none {
		r.heads(at, 0, 0, 0)
		for _, k := range []int{0, 1, 2, 3, -1, 63, -at, 64 - at, 65 - at, math.MaxInt, math.MinInt} {
			if r.Get(at, k) != 0 || r.Set(at, k, 9) {
				t.Errorf("there is a word %d at %d", k, at)
			}
		}
	}
	r.has(a, header, header, header, header, header, header, header)
	for k := range 100 {
		if r.Get(b, k) != header {
			t.Errorf("the word %d was changed", k)
		}
	}
	r.tells(2, 0, 0)
}

func TestAFreedBlockIsNoMore(t *testing.T) {
	r := newRoom(t, 256)
	a, b, c := r.refs(1, 2, 3), r.refs(4, 5, 6), r.made(sweep.Data, 70, 0)
	r.Hold(b)
	r.collects(2)
	r.isThere(false, a, c)
	r.has(b, 4, 5, 6)
	for _, at := range []int{a, c} {
		r.heads(at, 0, 0, 0)
		for k := -1; k < 5; k++ {
			if r.Get(at, k) != 0 || r.Set(at, k, 1) {
				t.Errorf("the freed block at %d has a word %d", at, k)
			}
		}
	}
	r.tells(1, 1, 2)
}

func TestWhatEachKindLeadsTo(t *testing.T) {
	for _, x := range []struct {
		kind, mask int
		kept       [4]bool
	}{
		{sweep.Data, 15, [4]bool{}}, {sweep.Refs, 0, [4]bool{true, true, true, true}}, {sweep.Behind, 0, [4]bool{true, true, true, true}},
		{sweep.Behind, 1, [4]bool{false, true, true, true}}, {sweep.Behind, 3, [4]bool{false, false, false, true}}, {sweep.Behind, 4, [4]bool{}},
		{sweep.Masked, 0, [4]bool{}}, {sweep.Masked, 5, [4]bool{true, false, true, false}}, {sweep.Masked, 8, [4]bool{false, false, false, true}},
		{sweep.Masked, 65520, [4]bool{}},
	} {
		r := newRoom(t, 256)
		at := r.made(x.kind, 4, x.mask)
		r.Hold(at)
		freed := 0
		var kids [4]int
		for k := range kids {
			kids[k] = r.refs()
			r.Set(at, k, kids[k])
			if !x.kept[k] {
				freed++
			}
		}
		r.collects(freed)
		for k, kid := range kids {
			r.isThere(x.kept[k], kid)
			if r.Get(at, k) != kid {
				t.Errorf("%+v: the word %d was changed", x, k)
			}
		}
	}
}
