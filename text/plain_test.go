package text_test

import (
	"maps"
	"math"
	"math/rand"
	"slices"
	"testing"

	"derrick/api"
	"derrick/space"
	"derrick/sweep"
	"derrick/text"
)

// writer makes strings by chance and keeps beside the space what each word must be.
type writer struct {
	desk
	*rand.Rand
	there map[int]string // by each block's address; blocks of other use are ""
	held  []int
	count map[string]int // of what came of the steps
}

func newWriter(t *testing.T, seed int) *writer {
	chance := rand.New(rand.NewSource(int64(seed)))
	return &writer{newDesk(t, 192+chance.Intn(3000)), chance, map[int]string{}, nil, map[string]int{}}
}

// anyText is mostly short; its bytes are any, or of few kinds.
func (y *writer) anyText() string {
	n := y.Intn(1 + y.Intn(40))
	switch y.Intn(20) {
	case 0:
		n = y.Intn(3000)
	case 1:
		n = api.MaxSlots - 1 + y.Intn(3)
	case 2:
		n = 8*y.Intn(70) + y.Intn(3)
	}
	all := make([]byte, n)
	few := 1 + y.Intn(256)
	for k := range all {
		all[k] = byte(255 + y.Intn(few))
	}
	return string(all)
}

// forget drops from what is there all that a collection must have freed.
func (y *writer) forget() {
	maps.DeleteFunc(y.there, func(at int, _ string) bool { return !slices.Contains(y.held, at) })
}

// collects does something, and tells whether the space made a collection meanwhile.
func (y *writer) collects(do func()) bool {
	_, before, _ := y.Told()
	do()
	_, behind, _ := y.Told()
	if behind == before {
		return false
	}
	y.forget()
	y.count["collected"]++
	return true
}

func (y *writer) make() {
	x := y.anyText()
	var w int
	var ok bool
	isCollected := y.collects(func() { w, ok = text.New(y.Space, x) })
	isRight := true
	switch {
	case x == "":
		isRight = w == 0 && ok && !isCollected
	case len(x) > api.MaxSlots:
		isRight = w == 0 && !ok && !isCollected
	case ok:
		_, isTaken := y.there[w]
		isRight = w != 0 && !isTaken
		y.write(w, x)
	default:
		isRight = w == 0 && isCollected
		y.noRoom(len(wordsOf(x)))
	}
	if !isRight {
		y.Errorf("New of %d bytes = %d, %v, with a collection: %v", len(x), w, ok, isCollected)
	}
}

// write notes a new string, and holds each second one.
func (y *writer) write(w int, x string) {
	y.there[w] = x
	y.has(w, wordsOf(x)...)
	if y.Intn(2) == 0 {
		y.Hold(w)
		y.held = append(y.held, w)
	}
}

// noRoom asks that the space itself has no place for so many words.
func (y *writer) noRoom(words int) {
	y.count["no room"]++
	if _, ok := y.Make(sweep.Data, words, 0); ok {
		y.Errorf("a string has no room where a block of %d words has", words)
	}
}

// other makes a block that is no string's, or one whose words make it a string's.
func (y *writer) other() {
	kind, words := 1+y.Intn(4), make([]int, y.Intn(6))
	for k := range words {
		words[k] = y.Intn(50) - 1
	}
	var at int
	var ok bool
	y.collects(func() { at, ok = y.Make(kind, len(words), y.Intn(2)*65535) })
	if !ok {
		return
	}
	for k, word := range words {
		y.Set(at, k, word)
	}
	y.there[at] = ""
	if kind == sweep.Data {
		y.there[at] = plainBytes(words)
		y.count["other data"]++
	}
}

// plainBytes is the second way to read a block of data: all its bytes are laid out, and as many taken as there are, if just these want so many words.
func plainBytes(words []int) string {
	if len(words) == 0 {
		return ""
	}
	var all []byte
	for _, word := range words[1:] {
		for range 8 {
			all = append(all, byte(word&255))
			word >>= 8
		}
	}
	left := len(all) - words[0]
	if words[0] < 0 || left < 0 || left > 7 {
		return ""
	}
	return string(all[:words[0]])
}

func (y *writer) drop() {
	n := y.Intn(1 + len(y.held))
	y.Drop(n)
	y.held = y.held[:len(y.held)-n]
}

func (y *writer) collect() {
	before := len(y.there)
	y.forget()
	if freed := y.Collect(); freed != before-len(y.there) {
		y.Errorf("%d were freed, not %d", freed, before-len(y.there))
	}
	y.count["freed"] += before - len(y.there)
}

func (y *writer) move() {
	switch n := y.Intn(40); {
	case n < 30:
		y.make()
	case n < 36:
		y.other()
	case n < 38:
		y.drop()
	default:
		y.collect()
	}
}

// agree reads every word that may be an address, and some that are none.
func (y *writer) agree() {
	if blocks, _, _ := y.Told(); blocks != len(y.there) {
		y.Errorf("%d blocks, not %d", blocks, len(y.there))
	}
	constants := []string{"x", "", "y"}
	for w := -5; w < 3300; w++ {
		want := y.there[w]
		if w > 0 && w < 6 && w%2 == 1 {
			want = constants[w/2]
		}
		if got := text.Bytes(y.Space, constants, w); got != want {
			y.Errorf("the word %d is %.40q, not %.40q", w, got, want)
		}
	}
	for _, w := range []int{math.MaxInt, math.MinInt, math.MaxInt - 1, math.MinInt + 1, y.Int(), -y.Int()} {
		if w < 0 || w > 3300 {
			y.reads(w, "")
		}
	}
}

func TestStringsByChanceAreReadBack(t *testing.T) {
	count := map[string]int{}
	for seed := range 60 {
		y := newWriter(t, seed)
		for i := range 400 {
			y.move()
			if i%10 == 9 {
				y.agree()
			}
			if t.Failed() {
				t.Fatalf("seed %d, step %d", seed, i)
			}
		}
		for what, n := range y.count {
			count[what] += n
		}
	}
	for _, what := range []string{"collected", "no room", "freed", "other data"} {
		if count[what] < 300 {
			t.Errorf("%s: only %d", what, count[what])
		}
	}
}

// TestManyHeldAndOthersBetween fills spaces with strings of which each third is held, until those have no room.
func TestManyHeldAndOthersBetween(t *testing.T) {
	for seed := range 20 {
		y := newWriter(t, 1000+seed)
		kept := map[int]string{}
		made, ok := 0, true
		for w := 0; ok; made++ {
			x := someText(1 + y.Intn(60))
			if w, ok = text.New(y.Space, x); ok && made%3 == 0 {
				y.Hold(w)
				kept[w] = x
			}
		}
		y.Collect()
		if blocks, collections, _ := y.Told(); blocks != len(kept) || collections < 2 || made < 3*len(kept)-2 {
			t.Errorf("seed %d: %d blocks of %d, %d collections", seed, blocks, len(kept), collections)
		}
		for w, x := range kept {
			y.reads(w, x)
		}
	}
}

func TestTheSameStepsMakeTheSameWords(t *testing.T) {
	play := func() (words []int) {
		s := space.New(1024)
		for k := range 300 {
			w, ok := text.New(s, someText(k%50))
			if words = append(words, w); ok && k%20 == 0 {
				s.Hold(w)
			}
		}
		return words
	}
	if !slices.Equal(play(), play()) {
		t.Error("the same steps made other words")
	}
}
