package space_test

import (
	"maps"
	"math"
	"math/rand"
	"slices"
	"testing"

	"derrick/space"
	"derrick/sweep"
)

// plain is the space's second way: a list of blocks, what is held, and nothing of a heap; each question is answered by going through all of it.
type plain struct {
	spans       int
	blocks      map[int]*block
	held        []int
	roots       []int // what the function tells
	collections int
}

type block struct {
	kind, size, mask int
	words            []int
}

// roomOf is how many words of the heap a block of so many words takes with its header.
func roomOf(size int) int {
	for _, class := range []int{2, 4, 8, 16, 32, 64} {
		if 1+size <= class {
			return class
		}
	}
	return (1 + size + 63) / 64 * 64
}

// within are the blocks that have words in a span.
func (p *plain) within(span int) (all []*block) {
	for at, b := range p.blocks {
		if at < 64*span+64 && at+roomOf(b.size) > 64*span {
			all = append(all, b)
		}
	}
	return all
}

func (p *plain) free() int {
	n := 0
	for s := 1; s < p.spans; s++ {
		if len(p.within(s)) == 0 {
			n++
		}
	}
	return n
}

// place is where a block of so many words goes; 0: nowhere.
func (p *plain) place(size int) int {
	room := roomOf(size)
	for at := 64; at < 64*p.spans && room < 64; at += room {
		beside := p.within(at / 64)
		if p.blocks[at] == nil && len(beside) > 0 && roomOf(beside[0].size) == room {
			return at
		}
	}
	row := 0
	for s := 1; s < p.spans; s++ {
		row++
		if len(p.within(s)) > 0 {
			row = 0
		}
		if count := (room + 63) / 64; row == count {
			return 64 * (s + 1 - count)
		}
	}
	return 0
}

func (p *plain) make(kind, size, mask int) (int, bool) {
	if kind < 1 || kind > 4 || size < 0 || size > 16384+63 || mask < 0 || mask > 65535 {
		return 0, false
	}
	at := p.place(size)
	if at == 0 {
		p.collect()
		if at = p.place(size); at == 0 {
			return 0, false
		}
	}
	p.blocks[at] = &block{kind, size, mask, make([]int, size)}
	return at, true
}

// leads tells whether the word k may be a reference.
func (b *block) leads(k int) bool {
	switch b.kind {
	case sweep.Refs:
		return true
	case sweep.Behind:
		return k >= b.mask
	case sweep.Masked:
		return k < 16 && b.mask/(1<<k)%2 == 1
	}
	return false
}

// collect goes through all blocks until no more of them are reached.
func (p *plain) collect() int {
	p.collections++
	reached := map[int]*block{}
	meet := func(w int) bool {
		b, met := p.blocks[w], reached[w]
		if b == nil || met != nil {
			return false
		}
		reached[w] = b
		return true
	}
	for _, w := range slices.Concat(p.held, p.roots) {
		meet(w)
	}
	for more := true; more; {
		more = false
		for _, at := range slices.Collect(maps.Keys(reached)) {
			for k, w := range reached[at].words {
				if reached[at].leads(k) && meet(w) {
					more = true
				}
			}
		}
	}
	freed := len(p.blocks) - len(reached)
	p.blocks = reached
	return freed
}

func (p *plain) set(at, k, v int) bool {
	b := p.blocks[at]
	if b == nil || k < 0 || k >= b.size {
		return false
	}
	b.words[k] = v
	return true
}

func (p *plain) drop(n int) {
	for ; n > 0 && len(p.held) > 0; n-- {
		p.held = p.held[:len(p.held)-1]
	}
}

// player plays one step after another on both spaces.
type player struct {
	*testing.T
	*rand.Rand
	s     *space.Space
	p     *plain
	count map[string]int // of what came of the steps
}

func newPlayer(t *testing.T, seed int) *player {
	chance := rand.New(rand.NewSource(int64(seed)))
	words := 128 + chance.Intn(1200)
	return &player{t, chance, space.New(words), &plain{spans: words / 64, blocks: map[int]*block{}}, map[string]int{}}
}

// anyWord is mostly a block's address, or one beside it.
func (y *player) anyWord() int {
	blocks := slices.Sorted(maps.Keys(y.p.blocks))
	switch n := y.Intn(12); {
	case n == 0:
		return []int{0, 1, -1, math.MaxInt, math.MinInt, math.MinInt + 64, 64 * y.p.spans}[y.Intn(7)]
	case n == 1 || len(blocks) == 0:
		return y.Intn(64*y.p.spans+200) - 100
	case n == 2:
		return blocks[y.Intn(len(blocks))] + y.Intn(9) - 4
	}
	return blocks[y.Intn(len(blocks))]
}

// anyAmount is mostly a small number, at times one at the edges or below 0.
func (y *player) anyAmount() int {
	switch y.Intn(10) {
	case 0:
		return -y.Intn(4)
	case 1:
		return []int{math.MinInt, math.MaxInt, 1000}[y.Intn(3)]
	}
	return y.Intn(4)
}

// anyBlock is mostly what a block can be made of.
func (y *player) anyBlock() (kind, size, mask int) {
	kind, size, mask = 1+y.Intn(4), y.Intn(1+y.Intn(40)), y.Intn(1<<16)
	switch y.Intn(12) {
	case 0:
		size = 60 + y.Intn(200)
	case 1:
		size = 1<<y.Intn(8) + y.Intn(3) - 1
	case 2:
		size = 0
	}
	if kind == sweep.Behind {
		mask = y.Intn(size + 2)
	}
	if y.Intn(12) == 0 {
		wrong := []int{-1, 5, 70000, math.MinInt, math.MaxInt}[y.Intn(5)]
		*[]*int{&kind, &size, &mask}[y.Intn(3)] = wrong
	}
	return kind, size, mask
}

func (y *player) make() {
	kind, size, mask := y.anyBlock()
	before := y.p.collections
	want, wantOk := y.p.make(kind, size, mask)
	if at, ok := y.s.Make(kind, size, mask); at != want || ok != wantOk {
		y.Errorf("Make(%d, %d, %d) = %d, %v; not %d, %v", kind, size, mask, at, ok, want, wantOk)
	}
	switch isCollected := y.p.collections > before; {
	case isCollected && wantOk:
		y.count["room by a collection"]++
	case isCollected:
		y.count["no room"]++
	case !wantOk:
		y.count["no header"]++
	}
	if want != 0 && y.Intn(3) == 0 {
		y.s.Hold(want)
		y.p.held = append(y.p.held, want)
	}
}

func (y *player) set() {
	at, v := y.anyWord(), y.anyWord()
	k := y.Intn(4) - 1
	if b := y.p.blocks[at]; b != nil && y.Intn(3) > 0 {
		k = y.Intn(b.size+3) - 1
	}
	if got, want := y.s.Set(at, k, v), y.p.set(at, k, v); got != want {
		y.Errorf("Set(%d, %d, %d) = %v", at, k, v, got)
	}
}

// newRoots gives another function to the space, or none.
func (y *player) newRoots() {
	y.p.roots, y.s.Roots = nil, nil
	if y.Intn(3) == 0 {
		return
	}
	for range y.Intn(4) {
		y.p.roots = append(y.p.roots, y.anyWord())
	}
	told := y.p.roots
	y.s.Roots = func(yield func(int)) {
		for _, w := range told {
			yield(w)
		}
	}
}

func (y *player) move() {
	switch n := y.Intn(40); {
	case n < 18:
		y.make()
	case n < 30:
		y.set()
	case n < 33:
		w := y.anyWord()
		y.s.Hold(w)
		y.p.held = append(y.p.held, w)
	case n < 36:
		amount := y.anyAmount()
		y.s.Drop(amount)
		y.p.drop(amount)
	case n < 38:
		y.newRoots()
	default:
		want := y.p.collect()
		if got := y.s.Collect(); got != want {
			y.Errorf("Collect() = %d, not %d", got, want)
		}
		y.count["freed"] += want
	}
}

// agree asks all that can be asked.
func (y *player) agree() {
	if b, c, s := y.s.Told(); b != len(y.p.blocks) || c != y.p.collections || s != y.p.free() {
		y.Errorf("told %d, %d, %d; not %d, %d, %d", b, c, s, len(y.p.blocks), y.p.collections, y.p.free())
	}
	for at := -3; at < 64*y.p.spans+67; at++ {
		b := y.p.blocks[at]
		if b == nil {
			b = &block{}
		}
		if kind, size, mask := y.s.Head(at); kind != b.kind || size != b.size || mask != b.mask {
			y.Errorf("Head(%d) = %d, %d, %d; not %+v", at, kind, size, mask, b)
		}
		for k, want := range slices.Concat([]int{0}, b.words, []int{0}) {
			if got := y.s.Get(at, k-1); got != want {
				y.Errorf("Get(%d, %d) = %d, not %d", at, k-1, got, want)
			}
		}
	}
}

func TestPlaysByChanceAgreeWithThePlainSpace(t *testing.T) {
	count := map[string]int{}
	for seed := range 150 {
		y := newPlayer(t, seed)
		for i := range 300 {
			y.move()
			if i%3 == 2 {
				y.agree()
			}
			if t.Failed() {
				t.Fatalf("seed %d, step %d", seed, i)
			}
		}
		for what, n := range y.count {
			count[what] += n
		}
	}
	for _, what := range []string{"room by a collection", "no room", "no header", "freed"} {
		if count[what] < 500 {
			t.Errorf("%s: only %d", what, count[what])
		}
	}
}

func TestTheSameStepsTellTheSame(t *testing.T) {
	play := func() (told []int) {
		y := newPlayer(t, 77)
		for range 400 {
			y.move()
			b, c, s := y.s.Told()
			told = append(told, b, c, s)
		}
		return told
	}
	if !slices.Equal(play(), play()) {
		t.Error("the same steps told other things")
	}
}
