package text_test

import (
	"math"
	"strings"
	"testing"

	"derrick/api"
	"derrick/space"
	"derrick/sweep"
	"derrick/text"
)

// desk is a space with what a test does to it and asks of it.
type desk struct {
	*testing.T
	*space.Space
}

func newDesk(t *testing.T, words int) desk {
	t.Helper()
	s := space.New(words)
	if s == nil {
		t.Fatalf("no space of %d words", words)
	}
	return desk{t, s}
}

// written makes a string that must be there.
func (d desk) written(t string) int {
	d.Helper()
	w, ok := text.New(d.Space, t)
	if !ok {
		d.Fatalf("no place for %d bytes", len(t))
	}
	return w
}

// refused asks that a string isn't made.
func (d desk) refused(t string) {
	d.Helper()
	if w, ok := text.New(d.Space, t); w != 0 || ok {
		d.Errorf("New of %d bytes = %d, %v", len(t), w, ok)
	}
}

// block makes a block of these words, whatever they mean.
func (d desk) block(kind, mask int, words ...int) int {
	d.Helper()
	at, ok := d.Make(kind, len(words), mask)
	if !ok {
		d.Fatalf("no place for %d words", len(words))
	}
	for k, word := range words {
		if !d.Set(at, k, word) {
			d.Fatalf("Set(%d, %d, %d) is false", at, k, word)
		}
	}
	return at
}

// reads asks which string a word is, without constants.
func (d desk) reads(w int, want string) {
	d.Helper()
	if got := text.Bytes(d.Space, nil, w); got != want {
		d.Errorf("the word %d is %.40q (%d bytes), not %.40q (%d bytes)", w, got, len(got), want, len(want))
	}
}

// tells asks for Told's three numbers.
func (d desk) tells(blocks, collections, spans int) {
	d.Helper()
	if b, c, s := d.Told(); b != blocks || c != collections || s != spans {
		d.Errorf("told %d, %d, %d; not %d, %d, %d", b, c, s, blocks, collections, spans)
	}
}

// has asks for the whole of a string's block.
func (d desk) has(at int, words ...int) {
	d.Helper()
	if kind, size, mask := d.Head(at); kind != sweep.Data || size != len(words) || mask != 0 {
		d.Errorf("Head(%d) = %d, %d, %d; not Data, %d, 0", at, kind, size, mask, len(words))
	}
	for k, want := range words {
		if got := d.Get(at, k); got != want {
			d.Errorf("Get(%d, %d) = %d, not %d", at, k, got, want)
		}
	}
}

// wordsOf is the second way to a string's words: each byte by its worth in the word where it stands.
func wordsOf(t string) []int {
	words := []int{len(t)}
	worth := 1
	for i, b := range []byte(t) {
		if i%8 == 0 {
			words = append(words, 0)
			worth = 1
		}
		words[len(words)-1] += worth * int(b)
		worth *= 256
	}
	return words
}

func TestExamples(t *testing.T) {
	d := newDesk(t, 128)
	at := d.written("abc")
	if at != 64 {
		t.Errorf("at %d", at)
	}
	d.has(at, 3, 97+98*256+99*65536)
	d.reads(at, "abc")
	if got := text.Bytes(d.Space, []string{"x", "y"}, 3); got != "y" {
		t.Errorf("the word 3 is %q", got)
	}
}

func TestTheEmptyStringHasNoBlock(t *testing.T) {
	d := newDesk(t, 128)
	for range 100 {
		if w := d.written(""); w != 0 {
			t.Errorf("the word of the empty string is %d", w)
		}
	}
	d.tells(0, 0, 1)
	d.reads(0, "")
}

func TestTheEmptyStringWantsNoRoom(t *testing.T) {
	d := newDesk(t, 128)
	d.Hold(d.block(sweep.Data, 0, make([]int, 63)...))
	asked := 0
	d.Roots = func(func(int)) { asked++ }
	if w := d.written(""); w != 0 {
		t.Errorf("the word of the empty string is %d", w)
	}
	d.tells(1, 0, 0)
	if asked != 0 {
		t.Error("a collection was begun")
	}
}

// someText is a text of n bytes, other ones at each length.
func someText(n int) string {
	all := make([]byte, n)
	for k := range all {
		all[k] = byte(37*k + 11*n + 200)
	}
	return string(all)
}

func TestTheWordsOfShortStrings(t *testing.T) {
	for n := 1; n <= 17; n++ {
		d := newDesk(t, 256)
		for _, x := range []string{someText(n), strings.Repeat("a", n), strings.Repeat("\x00", n), strings.Repeat("\xff", n), strings.Repeat("\x80", n), someText(n-1) + "\xff", someText(n-1) + "\x00"} {
			at := d.written(x)
			d.has(at, wordsOf(x)...)
			if _, size, _ := d.Head(at); size != 1+(n+7)/8 {
				t.Errorf("%d bytes: a block of %d words", n, size)
			}
			d.reads(at, x)
		}
		d.tells(7, 0, 2)
	}
}

func TestTheWordsAreTheChapters(t *testing.T) {
	d := newDesk(t, 512)
	for x, words := range map[string][]int{
		"\x00":                                 {1, 0},
		"\x01":                                 {1, 1},
		"\xff":                                 {1, 255},
		"\x00\xff":                             {2, 255 * 256},
		"\xff\x00":                             {2, 255},
		"\x00\x00\x00\x00\x00\x00\x00\x01":     {8, 1 << 56},
		"\x00\x00\x00\x00\x00\x00\x00\x80":     {8, math.MinInt},
		"\xff\xff\xff\xff\xff\xff\xff\x7f":     {8, math.MaxInt},
		"\xff\xff\xff\xff\xff\xff\xff\xff":     {8, -1},
		"\xfe\xff\xff\xff\xff\xff\xff\xff\xff": {9, -2, 255},
		"abcdefgh":                             {8, 0x6867666564636261},
		"abcdefghi":                            {9, 0x6867666564636261, 0x69},
		"\xff\xff\xff\xff\xff\xff\xff":         {7, 1<<56 - 1},
		"é":                                    {2, 0xc3 + 0xa9*256},
	} {
		at := d.written(x)
		d.has(at, words...)
		d.reads(at, x)
	}
}

func TestEachByteAtEachPlace(t *testing.T) {
	for b := range 256 {
		d := newDesk(t, 256)
		for place := range 17 {
			all := []byte(strings.Repeat("\x55", 17))
			all[place] = byte(b)
			at := d.written(string(all))
			d.has(at, wordsOf(string(all))...)
			d.reads(at, string(all))
		}
	}
}

func TestEveryLength(t *testing.T) {
	d := newDesk(t, 4096)
	for n := 1; n <= 1100; n++ {
		x := someText(n)
		at := d.written(x)
		d.has(at, wordsOf(x)...)
		d.reads(at, x)
		d.Collect()
		d.reads(at, "")
	}
}

func TestTheGreatestLength(t *testing.T) {
	for _, n := range []int{api.MaxSlots - 8, api.MaxSlots - 7, api.MaxSlots - 1, api.MaxSlots} {
		d := newDesk(t, 64*34)
		x := someText(n)
		at := d.written(x)
		d.has(at, wordsOf(x)...)
		d.reads(at, x)
		d.tells(1, 0, 33-(1+1+(n+7)/8+63)/64)
	}
}

func TestALengthTooGreat(t *testing.T) {
	d := newDesk(t, 64*100)
	kept := d.written("kept")
	asked := 0
	d.Roots = func(func(int)) { asked++ }
	for _, n := range []int{api.MaxSlots + 1, api.MaxSlots + 2, api.MaxSlots + 7, api.MaxSlots + 8, api.MaxSlots + 9, 2 * api.MaxSlots, 8 * api.MaxSlots, 8*api.MaxSlots + 500, 1 << 22} {
		d.refused(strings.Repeat("a", n))
		d.tells(1, 0, 98)
	}
	if asked != 0 {
		t.Error("a collection was begun")
	}
	d.reads(kept, "kept")
	if at := d.written("next"); at != kept+4 {
		t.Errorf("the next string is at %d", at)
	}
}

// TestEachStringIsANewBlock asks that the same text made twice has two blocks, each with bytes of its own.
func TestEachStringIsANewBlock(t *testing.T) {
	d := newDesk(t, 256)
	a, b := d.written("same"), d.written("same")
	if a == b {
		t.Fatalf("both are at %d", a)
	}
	d.Set(a, 1, 'S'+'A'<<8+'M'<<16+'E'<<24)
	d.reads(a, "SAME")
	d.reads(b, "same")
	d.tells(2, 0, 2)
}

func TestNoRoomBeforeAndBehindACollection(t *testing.T) {
	d := newDesk(t, 128)
	var words []int
	for k := range 16 {
		words = append(words, d.written(someText(k%8+1)))
		d.Hold(words[k])
	}
	d.tells(16, 0, 0)
	for tries, x := range []string{"a", "abcdefgh", "abcdefghi", someText(500), someText(api.MaxSlots)} {
		d.refused(x)
		d.tells(16, tries+1, 0)
	}
	d.refused(someText(api.MaxSlots + 1))
	d.tells(16, 5, 0)
	for k, w := range words {
		d.reads(w, someText(k%8+1))
	}
	d.Drop(1)
	d.refused(someText(20)) // a span with strings in it keeps its class
	d.tells(15, 6, 0)
	if at := d.written("by room"); at != words[15] {
		t.Errorf("at %d, not %d", at, words[15])
	}
	d.tells(16, 6, 0)
	if at := d.written("by a collection"[:8]); at != words[15] {
		t.Errorf("at %d, not %d", at, words[15])
	}
	d.reads(words[15], "by a col")
	d.tells(16, 7, 0)
	for k, w := range words[:15] {
		d.reads(w, someText(k%8+1))
	}
}

func TestNoRoomForALongString(t *testing.T) {
	d := newDesk(t, 64*33)
	d.refused(someText(8 * 64 * 32)) // its bytes alone would fill the space
	d.tells(0, 1, 32)
	x := someText(8*64*32 - 16)
	at := d.written(x)
	d.Hold(at)
	d.tells(1, 1, 0)
	d.refused("a")
	d.tells(1, 2, 0)
	d.reads(at, x)
	d.Drop(1)
	d.reads(d.written("a"), "a")
	d.tells(1, 3, 31)
}

// TestARestOfAFreedBlockIsZero makes a string where another one with more bytes was.
func TestARestOfAFreedBlockIsZero(t *testing.T) {
	for n := 1; n <= 24; n++ {
		d := newDesk(t, 128)
		d.written(strings.Repeat("\xff", 24))
		d.Collect()
		at := d.written(someText(n))
		if at != 64 {
			t.Errorf("at %d", at)
		}
		d.has(at, wordsOf(someText(n))...)
		d.reads(at, someText(n))
	}
}

// TestBytesAreNoReferences makes strings whose words are the addresses of other blocks: they keep none of them.
func TestBytesAreNoReferences(t *testing.T) {
	d := newDesk(t, 512)
	other := d.written("other")
	bytes := []byte{byte(other), byte(other >> 8), 0, 0, 0, 0, 0, 0}
	at := d.written(string(bytes))
	long := d.written(strings.Repeat("x", other)) // its length is the address
	d.has(at, 8, other)
	d.Hold(at)
	d.Hold(long)
	if freed := d.Collect(); freed != 1 {
		t.Errorf("%d were freed", freed)
	}
	d.reads(other, "")
	d.reads(at, string(bytes))
	d.reads(long, strings.Repeat("x", other))
}

func TestStringsWithinOtherBlocks(t *testing.T) {
	d := newDesk(t, 512)
	words := make([]int, 6)
	box := d.block(sweep.Refs, 0, words...)
	d.Hold(box)
	for k := range words {
		words[k] = d.written(someText(7 * k)) // the first is empty
		d.Set(box, k, words[k])
	}
	lost := d.written("lost")
	d.Set(box, 4, text.Constant(1))
	if freed := d.Collect(); freed != 2 {
		t.Errorf("%d were freed", freed)
	}
	for k, w := range words {
		if k != 4 {
			d.reads(w, someText(7*k))
		}
	}
	d.reads(words[4], "")
	d.reads(lost, "")
	if got := text.Bytes(d.Space, []string{"x", "y"}, d.Get(box, 4)); got != "y" {
		t.Errorf("the constant is %q", got)
	}
}

func TestConstant(t *testing.T) {
	for i, want := range map[int]int{
		0: 1, 1: 3, 2: 5, 100: 201, 1<<20 - 1: 1<<21 - 1, 1 << 20: 1<<21 + 1, 1 << 31: 1<<32 + 1, 1 << 32: 1<<33 + 1, 1 << 40: 1<<41 + 1,
		1 << 61: 1<<62 + 1, 1<<62 - 2: math.MaxInt - 2, 1<<62 - 1: math.MaxInt,
	} {
		if got := text.Constant(i); got != want {
			t.Errorf("Constant(%d) = %d, not %d", i, got, want)
		}
	}
	for i := range 10000 {
		if got := text.Constant(i); got != 2*i+1 {
			t.Errorf("Constant(%d) = %d", i, got)
		}
	}
}

// TestConstantOfNumbersThatNoListHas takes numbers whose doubles wrap round, and those below 0: none is another constant's word.
func TestConstantOfNumbersThatNoListHas(t *testing.T) {
	d := newDesk(t, 128)
	constants := []string{"x", "y", "z"}
	for _, i := range []int{1 << 62, 1<<62 + 1, math.MaxInt - 1, math.MaxInt} {
		if got := text.Constant(i); got != 2*i+1 {
			t.Errorf("Constant(%d) = %d", i, got)
		}
	}
	for _, i := range []int{3, 1 << 61, 1<<62 - 1, 1 << 62, 1<<62 + 1, math.MaxInt, -1, -2, -1 << 31, -1 << 62, -1<<62 - 1, math.MinInt + 2, math.MinInt + 1, math.MinInt} {
		if got := text.Bytes(d.Space, constants, text.Constant(i)); got != "" {
			t.Errorf("the constant %d is %q", i, got)
		}
	}
}
