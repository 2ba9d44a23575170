package mail_test

import (
	"maps"
	"math/rand"
	"slices"
	"testing"

	"derrick/api"
	"derrick/mail"
	"derrick/space"
	"derrick/sweep"
)

// box is what a channel must have. Where its list begins comes of how many items were taken away.
type box struct {
	refs, closed  bool
	places, taken int
	items         []int
}

// player makes channels by chance, pushes to them, shifts and closes them. Beside its space stand two second ways to what must come of it: a list of Go's for each channel tells what it has, and what is reached; and a twin of the space, all of whose blocks are data and whose roots are all that is so reached, tells where blocks are and whether there is room.
type player struct {
	desk
	*rand.Rand
	twin  *space.Space
	boxes map[int]*box // by each channel's word
	cells map[int]int  // by the address of each other block: its word
	held  []int
	most  int            // of the places of a channel
	count map[string]int // of what came of the steps
}

func newPlayer(t *testing.T, seed, words, most int) *player {
	p := &player{
		desk: newDesk(t, words), Rand: rand.New(rand.NewSource(int64(seed))), twin: space.New(words),
		boxes: map[int]*box{}, cells: map[int]int{}, most: most, count: map[string]int{},
	}
	p.twin.Roots = func(yield func(int)) {
		for _, w := range p.reached() {
			yield(w)
		}
	}
	return p
}

// reached are the blocks that what is held leads to.
func (p *player) reached() (all []int) {
	met := map[int]bool{}
	waiting := slices.Clone(p.held)
	for len(waiting) > 0 {
		w := waiting[0]
		waiting = waiting[1:]
		x := p.boxes[w]
		if _, isCell := p.cells[w]; met[w] || x == nil && !isCell {
			continue
		}
		met[w] = true
		all = append(all, w)
		if x != nil && x.refs {
			waiting = append(waiting, x.items...)
		}
	}
	return all
}

// forget drops all that a collection frees.
func (p *player) forget() {
	p.count["collected"]++
	kept := map[int]bool{}
	for _, w := range p.reached() {
		kept[w] = true
	}
	before := len(p.boxes) + len(p.cells)
	maps.DeleteFunc(p.boxes, func(w int, _ *box) bool { return !kept[w] })
	maps.DeleteFunc(p.cells, func(at int, _ int) bool { return !kept[at] })
	p.count["freed"] += before - len(p.boxes) - len(p.cells)
}

// block makes one in the twin.
func (p *player) block(size int) (int, bool) {
	_, before, _ := p.twin.Told()
	at, ok := p.twin.Make(sweep.Data, size, 0)
	if _, behind, _ := p.twin.Told(); behind != before {
		p.forget()
	}
	return at, ok
}

// hold holds a word, and now and then drops some.
func (p *player) hold(w int) {
	if p.Intn(5) == 0 {
		p.drop()
	}
	p.Hold(w)
	p.held = append(p.held, w)
}

func (p *player) drop() {
	n := p.Intn(1 + min(4, len(p.held)))
	p.Drop(n)
	p.held = p.held[:len(p.held)-n]
}

func (p *player) anyPlaces() int {
	switch p.Intn(30) {
	case 0:
		return -1 - p.Intn(3)
	case 1:
		return api.MaxMake + 1 + p.Intn(3)
	case 2:
		return p.most
	case 3:
		return p.Int() - p.Int()
	case 4, 5, 6:
		return p.Intn(1 + p.most)
	}
	return p.Intn(1 + min(p.most, 6))
}

func (p *player) new() {
	places, refs := p.anyPlaces(), p.Intn(2) == 0
	w, ok := mail.New(p.Space, places, refs)
	want, isMade := 0, false
	if places >= 0 && places <= api.MaxMake {
		if want, isMade = p.block(4 + places); !isMade {
			p.count["no room"]++
		}
	}
	if w != want || ok != isMade {
		p.Fatalf("New of %d places = %d, %v; not %d, %v", places, w, ok, want, isMade)
	}
	if ok {
		p.boxes[w] = &box{refs: refs, places: places}
		p.count["made"]++
		p.hold(w)
	}
}

// cell makes a block with a word of its own, and may send it into a channel at once.
func (p *player) cell() {
	at, ok := p.Make(sweep.Data, 1, 0)
	if want, isMade := p.block(1); at != want || ok != isMade {
		p.Fatalf("a cell is at %d, %v; not %d, %v", at, ok, want, isMade)
	}
	if ok {
		p.cells[at] = p.Int()
		p.Set(at, 0, p.cells[at])
		p.push(at)
	}
}

// anyChannel is one that is there, reached or not, or nil.
func (p *player) anyChannel() (int, *box) {
	all := slices.Sorted(maps.Keys(p.boxes))
	if len(all) == 0 || p.Intn(40) == 0 {
		return 0, &box{}
	}
	w := all[p.Intn(len(all))]
	return w, p.boxes[w]
}

// anyItem is the address of something that is there, one where perhaps nothing is, or a number.
func (p *player) anyItem() int {
	switch p.Intn(4) {
	case 0:
		w, _ := p.anyChannel()
		return w
	case 1:
		if all := slices.Sorted(maps.Keys(p.cells)); len(all) > 0 {
			return all[p.Intn(len(all))]
		}
	case 2:
		return p.Intn(p.words)
	}
	return 2*p.Intn(1000) - 999
}

func (p *player) push(v int) {
	w, x := p.anyChannel()
	hasPlace := len(x.items) < x.places
	if ok := mail.Push(p.Space, w, v); ok != hasPlace {
		p.Errorf("Push(%d, %d) = %v", w, v, ok)
	}
	if !hasPlace {
		p.count["full"]++
		return
	}
	x.items = append(x.items, v)
	p.count["pushed"]++
	if x.closed {
		p.count["pushed to a closed one"]++
	}
}

func (p *player) shift() {
	w, x := p.anyChannel()
	v, ok := mail.Shift(p.Space, w)
	if len(x.items) == 0 {
		if v != 0 || ok {
			p.Errorf("Shift(%d) = %d, %v", w, v, ok)
		}
		p.count["empty"]++
		return
	}
	if v != x.items[0] || !ok {
		p.Errorf("Shift(%d) = %d, %v; not %d", w, v, ok, x.items[0])
	}
	x.items = x.items[1:]
	x.taken++
	p.count["shifted"]++
	if x.taken%x.places == 0 {
		p.count["went round"]++
	}
}

func (p *player) close() {
	w, x := p.anyChannel()
	isRight := w != 0 && !x.closed
	if ok := mail.Close(p.Space, w); ok != isRight {
		p.Errorf("Close(%d) = %v", w, ok)
	}
	if isRight {
		x.closed = true
		p.count["closed"]++
	}
}

func (p *player) collect() {
	blocks := len(p.boxes) + len(p.cells)
	p.twin.Collect()
	p.forget()
	if freed := p.Collect(); freed != blocks-len(p.boxes)-len(p.cells) {
		p.Errorf("%d of %d were freed, not %d", freed, blocks, blocks-len(p.boxes)-len(p.cells))
	}
}

func (p *player) move() {
	switch n := p.Intn(100); {
	case n < 15:
		p.new()
	case n < 25:
		p.cell()
	case n < 60:
		p.push(p.anyItem())
	case n < 88:
		p.shift()
	case n < 94:
		p.close()
	case n < 96:
		p.drop()
	default:
		p.collect()
	}
}

// agree asks for all that is there: each channel as it is told and as it stands, each other block, and what the twin tells.
func (p *player) agree() {
	p.Helper()
	for w, x := range p.boxes {
		p.shows(w, look{x.refs, x.closed, x.taken % max(x.places, 1), x.places}, x.items...)
	}
	for at, v := range p.cells {
		p.has(at, sweep.Data, 0, v)
	}
	blocks, collections, spans := p.Told()
	if b, c, s := p.twin.Told(); blocks != b || collections != c || spans != s || blocks != len(p.boxes)+len(p.cells) {
		p.Errorf("told %d, %d, %d; not %d, %d, %d", blocks, collections, spans, b, c, s)
	}
}

func play(t *testing.T, seed, words, most, steps int, count map[string]int) {
	t.Helper()
	p := newPlayer(t, seed, words, most)
	for i := range steps {
		p.move()
		if i%5 == 4 {
			p.agree()
		}
		if t.Failed() {
			t.Fatalf("seed %d, step %d", seed, i)
		}
	}
	count["held at the end"] += len(p.held)
	for what, n := range p.count {
		count[what] += n
	}
}

func happened(t *testing.T, count map[string]int, least int, all ...string) {
	t.Helper()
	for _, what := range all {
		if count[what] < least {
			t.Errorf("%s: only %d", what, count[what])
		}
	}
}

func TestChannelsByChance(t *testing.T) {
	count := map[string]int{}
	for seed := range 80 {
		play(t, seed, 128+29*seed, 60, 600, count)
	}
	happened(t, count, 500, "made", "no room", "collected", "freed", "pushed", "pushed to a closed one", "full", "shifted", "empty", "went round", "closed")
}

// TestManyHeldByChance has room for some hundreds of channels that are held at once.
func TestManyHeldByChance(t *testing.T) {
	count := map[string]int{}
	for seed := range 4 {
		play(t, 2000+seed, 64*300, 12, 5000, count)
	}
	happened(t, count, 400, "made", "collected", "freed", "pushed", "shifted", "closed", "held at the end")
}

// TestGreatChannelsByChance comes to the greatest numbers of places.
func TestGreatChannelsByChance(t *testing.T) {
	count := map[string]int{}
	for seed := range 16 {
		play(t, 1000+seed, 64*(20+seed*4), api.MaxMake, 800, count)
	}
	happened(t, count, 50, "made", "no room", "collected", "freed", "pushed", "shifted")
}
