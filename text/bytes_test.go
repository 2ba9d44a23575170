package text_test

import (
	"math"
	"slices"
	"strings"
	"testing"

	"derrick/api"
	"derrick/sweep"
	"derrick/text"
)

func TestBytesOfConstants(t *testing.T) {
	d := newDesk(t, 256)
	d.written("abc")
	many := make([]string, 1000)
	for i := range many {
		many[i] = someText(i)
	}
	for _, constants := range [][]string{nil, {}, {""}, {"x"}, {"x", "y"}, {"", "\x00\xff", "", strings.Repeat("long", 100)}, many} {
		for i := range len(constants) + 40 {
			want := ""
			if i < len(constants) {
				want = constants[i]
			}
			if got := text.Bytes(d.Space, constants, 2*i+1); got != want {
				t.Errorf("the word %d of %d constants is %q, not %q", 2*i+1, len(constants), got, want)
			}
			if got := text.Bytes(d.Space, constants, text.Constant(i)); got != want {
				t.Errorf("the constant %d of %d is %q, not %q", i, len(constants), got, want)
			}
		}
	}
}

func TestBytesOfOddWordsThatAreNoConstants(t *testing.T) {
	d := newDesk(t, 256)
	at := d.written("abc")
	for _, constants := range [][]string{nil, {}, {"x"}, {"x", "y"}, slices.Repeat([]string{"x"}, 63)} {
		for _, w := range []int{
			127, 129, 1<<20 + 1, 1<<32 + 1, 1<<33 + 1, 1<<62 + 1, 1<<63 - 3, math.MaxInt,
			-1, -3, -5, -125, -127, -129, 1 - 1<<32, -1 - 1<<32, math.MinInt + 1, math.MinInt + 3, -at - 1, -at + 1,
		} {
			if got := text.Bytes(d.Space, constants, w); got != "" {
				t.Errorf("the word %d of %d constants is %q", w, len(constants), got)
			}
		}
	}
}

// TestBytesWithSpareRoom asks that what stands behind a list is no part of it.
func TestBytesWithSpareRoom(t *testing.T) {
	d := newDesk(t, 128)
	whole := []string{"a", "b", "c", "d"}
	for n := range whole {
		for i := range whole {
			want := ""
			if i < n {
				want = whole[i]
			}
			if got := text.Bytes(d.Space, whole[:n], 2*i+1); got != want {
				t.Errorf("the constant %d of %d is %q", i, n, got)
			}
		}
	}
	if !slices.Equal(whole, []string{"a", "b", "c", "d"}) {
		t.Errorf("the list was changed: %q", whole)
	}
}

// TestBytesWhereNoBlockBegins lays words of strings within other strings' bytes.
func TestBytesWhereNoBlockBegins(t *testing.T) {
	d := newDesk(t, 256)
	header := sweep.Header(sweep.Data, 2, 0)
	a := d.block(sweep.Data, 0, header, 3, 0x636261, header, 3, 0x636261, header)
	b := d.block(sweep.Data, 0, slices.Repeat([]int{header, 3, 0x636261}, 40)...)
	if a != 64 || b != 128 {
		t.Fatal(a, b)
	}
	for _, w := range []int{
		0, 2, 62, 66, 68, 70, 72, 74, 80, 126, 130, 132, 160, 190, 192, 194, 254, 256, 258, 320, 9998, 1 << 20, 1<<32 + 64, 1 << 62, math.MaxInt - 1,
		-2, -62, -64, -66, -128, -1 << 20, math.MinInt, math.MinInt + 2, math.MinInt + 64, math.MinInt + 128,
	} {
		for _, constants := range [][]string{nil, {}, slices.Repeat([]string{"x"}, 200)} {
			if got := text.Bytes(d.Space, constants, w); got != "" {
				t.Errorf("the word %d is %q", w, got)
			}
		}
	}
	d.tells(2, 0, 0)
}

func TestBytesOfAnEmptySpace(t *testing.T) {
	d := newDesk(t, 128)
	for w := -300; w < 300; w++ {
		d.reads(w, "")
	}
}

func TestBytesOfAStringThatWasFreed(t *testing.T) {
	d := newDesk(t, 512)
	short, long, held := d.written("short"), d.written(someText(900)), d.written("held")
	d.Hold(held)
	d.Collect()
	d.reads(short, "")
	d.reads(long, "")
	d.reads(held, "held")
}

func TestBytesOfBlocksOfOtherKinds(t *testing.T) {
	d := newDesk(t, 1024)
	for _, kind := range []int{sweep.Refs, sweep.Behind, sweep.Masked} {
		for _, mask := range []int{0, 1, 2, 4, 65535} {
			d.reads(d.block(kind, mask, 3, 0x636261), "")
			d.reads(d.block(kind, mask, 1, 97), "")
			d.reads(d.block(kind, mask, 9, -1, 97), "")
			d.reads(d.block(kind, mask, 0), "")
			d.reads(d.block(kind, mask), "")
		}
	}
	d.reads(d.block(sweep.Data, 0, 3, 0x636261), "abc")
}

// TestTheMaskOfDataIsNotAsked: the chapter's form says nothing of a mask, and of Data a mask says nothing.
func TestTheMaskOfDataIsNotAsked(t *testing.T) {
	d := newDesk(t, 256)
	for _, mask := range []int{0, 1, 2, 3, 65535} {
		d.reads(d.block(sweep.Data, mask, 3, 0x636261), "abc")
	}
}

// TestBytesOfEachLengthInEachBlock: just the lengths that want all of a block's words make it a string's.
func TestBytesOfEachLengthInEachBlock(t *testing.T) {
	for size := range 40 {
		d := newDesk(t, 256)
		words := wordsOf(someText(8 * size))[:size]
		at := d.block(sweep.Data, 0, words...)
		for n := -20; n < 8*size+40; n++ {
			d.Set(at, 0, n)
			want := ""
			if n > 0 && size == len(wordsOf(strings.Repeat("x", n))) {
				want = someText(8 * size)[:n]
			}
			d.reads(at, want)
		}
	}
}

func TestBytesOfBlocksWithTooFewOrTooManyWords(t *testing.T) {
	d := newDesk(t, 1024)
	for _, words := range [][]int{
		{}, {1}, {8}, {-1}, {0}, {64}, {math.MaxInt}, {math.MinInt},
		{9, -1}, {10, -1}, {16, -1}, {17, -1, -1}, {24, -1, -1}, {1000, -1, -1},
		{0, -1}, {1, 97, 0}, {3, 0x636261, 0}, {7, -1, -1}, {8, -1, 0}, {8, -1, -1}, {9, -1, -1, 0}, {16, -1, -1, -1}, {1, 97, 0, 0, 0, 0, 0},
	} {
		d.reads(d.block(sweep.Data, 0, words...), "")
	}
	for words, want := range map[[3]int]string{{9, -1, 97}: strings.Repeat("\xff", 8) + "a", {16, -1, -1}: strings.Repeat("\xff", 16)} {
		d.reads(d.block(sweep.Data, 0, words[:]...), want)
	}
}

func TestBytesOfLengthsAtTheEdges(t *testing.T) {
	d := newDesk(t, 1024)
	for _, size := range []int{1, 2, 3, 8, 63, 64, 65, 200} {
		at := d.block(sweep.Data, 0, slices.Repeat([]int{-1}, size)...)
		for _, n := range []int{
			-1, -7, -8, -9, -64, -1 << 32, math.MinInt, math.MinInt + 1, math.MinInt + 7, math.MinInt + 8, math.MinInt + 8*size,
			8*size - 7, 8 * size, 1 << 31, 1 << 32, 1<<32 + 8*size - 8, 1 << 61, 1 << 62, math.MaxInt - 8, math.MaxInt - 7, math.MaxInt - 6, math.MaxInt - 1, math.MaxInt,
		} {
			d.Set(at, 0, n)
			d.reads(at, "")
		}
	}
}

func TestWhatStandsBeyondTheBytesIsNotLookedAt(t *testing.T) {
	d := newDesk(t, 1024)
	for n := 1; n <= 33; n++ {
		x := someText(n)
		at := d.written(x)
		last := len(wordsOf(x)) - 1
		word := d.Get(at, last)
		beyond := -1
		if n%8 == 0 {
			beyond = 0
		}
		beyond <<= 8 * (n % 8)
		for _, more := range []int{beyond, beyond & math.MaxInt, beyond & math.MinInt, beyond & 0x0101010101010101, 0} {
			d.Set(at, last, word|more)
			d.reads(at, x)
			if got := d.Get(at, last); got != word|more {
				t.Errorf("%d bytes: the last word is %d", n, got)
			}
		}
	}
}

// TestBytesOfALongerStringThanNewMakes: the form of a block has no greatest length but the block's own.
func TestBytesOfALongerStringThanNewMakes(t *testing.T) {
	for _, n := range []int{api.MaxSlots, api.MaxSlots + 1, api.MaxSlots + 8, 8 * api.MaxSlots, 8 * (api.MaxSlots + 62)} {
		d := newDesk(t, 64*300)
		x := someText(n)
		at := d.block(sweep.Data, 0, wordsOf(x)...)
		d.reads(at, x)
		d.Set(at, 0, n+8)
		d.reads(at, "")
	}
}

func TestBytesChangesNothing(t *testing.T) {
	d := newDesk(t, 512)
	at := d.written("held")
	d.Hold(at)
	d.written("not held")
	d.block(sweep.Refs, 0, at, 3, 5)
	asked := 0
	d.Roots = func(func(int)) { asked++ }
	constants := []string{"x", "y"}
	for w := -10; w < 600; w++ {
		text.Bytes(d.Space, constants, w)
	}
	d.tells(3, 0, 6)
	if asked != 0 {
		t.Error("a collection was begun")
	}
	d.has(at, wordsOf("held")...)
	if !slices.Equal(constants, []string{"x", "y"}) {
		t.Errorf("the list was changed: %q", constants)
	}
}

func TestAStringThatWasReadStaysAsItWas(t *testing.T) {
	d := newDesk(t, 128)
	at := d.written("before, and long enough")
	read := text.Bytes(d.Space, nil, at)
	for k := 1; k < 4; k++ {
		d.Set(at, k, -1)
	}
	d.Collect()
	d.written(someText(23))
	if read != "before, and long enough" {
		t.Errorf("%q", read)
	}
}
