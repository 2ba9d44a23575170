package list_test

import (
	"maps"
	"math/rand"
	"slices"
	"testing"

	"derrick/api"
	"derrick/list"
	"derrick/space"
	"derrick/sweep"
)

// player makes, appends to, cuts and writes slices by chance. Beside its space stand two second ways to what must come of it: Go's own slices, which share their arrays, tell what each word has; and a twin of the space, in which the same blocks are made by hand, tells where they are and whether there is room.
type player struct {
	desk
	*rand.Rand
	twin   *space.Space
	slices map[int][]int // by each slice's word
	home   map[int]int   // by each slice's word: its array
	arrays map[int][]int // by each array's address: all its items
	refs   map[int]bool  // by each array's address
	held   []int
	most   int            // of the items that are handed in at once
	count  map[string]int // of what came of the steps
}

func newPlayer(t *testing.T, seed, words, most int) *player {
	return &player{
		desk: newDesk(t, words), Rand: rand.New(rand.NewSource(int64(seed))), twin: space.New(words),
		slices: map[int][]int{}, home: map[int]int{}, arrays: map[int][]int{}, refs: map[int]bool{}, most: most, count: map[string]int{},
	}
}

// reached are the slices' words and the arrays' addresses that what is held leads to.
func (p *player) reached() (all []int) {
	met := map[int]bool{}
	waiting := slices.Clone(p.held)
	for len(waiting) > 0 {
		w := waiting[0]
		waiting = waiting[1:]
		if met[w] || p.arrays[w] == nil && p.home[w] == 0 {
			continue
		}
		met[w] = true
		all = append(all, w)
		waiting = append(waiting, p.home[w])
		if p.refs[w] {
			waiting = append(waiting, p.arrays[w]...)
		}
	}
	return all
}

// forget drops all that a collection frees.
func (p *player) forget() {
	p.count["collected"]++
	kept := p.reached()
	for w := range p.home {
		if !slices.Contains(kept, w) {
			delete(p.slices, w)
			delete(p.home, w)
			p.count["slices freed"]++
		}
	}
	for at := range p.arrays {
		if !slices.Contains(kept, at) {
			delete(p.arrays, at)
			delete(p.refs, at)
			p.count["arrays freed"]++
		}
	}
}

// block makes one in the twin.
func (p *player) block(kind, size, mask int) (int, bool) {
	_, before, _ := p.twin.Told()
	at, ok := p.twin.Make(kind, size, mask)
	if _, behind, _ := p.twin.Told(); behind != before {
		p.forget()
	}
	return at, ok
}

// view makes a slice of an array in the twin.
func (p *player) view(array int, x []int) (int, bool) {
	p.twin.Hold(array)
	p.held = append(p.held, array)
	w, ok := p.block(sweep.Masked, 4, 1)
	p.twin.Drop(1)
	p.held = p.held[:len(p.held)-1]
	if !ok {
		p.count["no room for a slice"]++
		return 0, false
	}
	for k, v := range []int{array, cap(p.arrays[array]) - cap(x), len(x), cap(x)} {
		p.twin.Set(w, k, v)
	}
	p.slices[w], p.home[w] = x, array
	return w, true
}

// fresh makes an array and a slice of it in the twin.
func (p *player) fresh(n, room int, refs bool, items ...[]int) (int, bool) {
	at, ok := p.block(kindOf(refs), room, 0)
	if !ok {
		p.count["no room for an array"]++
		return 0, false
	}
	p.arrays[at], p.refs[at] = make([]int, room), refs
	w, ok := p.view(at, p.arrays[at][:n])
	if !ok {
		p.twin.Collect()
		p.forget()
		return 0, false
	}
	p.write(w, 0, slices.Concat(items...))
	return w, true
}

// write puts items into a slice's array, from one of the slice's on: by Go's slice, and by hand in the twin.
func (p *player) write(w, from int, items []int) {
	x, array := p.slices[w], p.home[w]
	for k, v := range items {
		x[from+k] = v
		p.twin.Set(array, cap(p.arrays[array])-cap(x)+from+k, v)
	}
}

// asks holds what a call answered against what the second ways did.
func (p *player) asks(what string, w int, ok bool, want int, wantOk bool) {
	p.Helper()
	if w != want || ok != wantOk {
		p.Fatalf("%s = %d, %v; not %d, %v", what, w, ok, want, wantOk)
	}
	if ok {
		p.count[what]++
	}
}

// hold holds a word in both spaces, and keeps few.
func (p *player) hold(w int) {
	if p.Intn(3) == 0 {
		p.drop()
	}
	p.Hold(w)
	p.twin.Hold(w)
	p.held = append(p.held, w)
}

func (p *player) drop() {
	n := p.Intn(1 + min(4, len(p.held)))
	p.Drop(n)
	p.twin.Drop(n)
	p.held = p.held[:len(p.held)-n]
}

// anySlice is a slice that is reached, or nil.
func (p *player) anySlice() int {
	all := p.reached()
	for range 9 {
		if len(all) == 0 {
			return 0
		}
		if w := all[p.Intn(len(all))]; p.home[w] != 0 {
			return w
		}
	}
	return 0
}

func (p *player) anyNumber(most int) int {
	switch p.Intn(30) {
	case 0:
		return -1
	case 1:
		return most + 1
	case 2:
		return most
	case 3:
		return p.Int() - p.Int()
	case 4, 5, 6, 7:
		return p.Intn(1 + most)
	}
	return p.Intn(1 + min(most, 12))
}

// anyItems are numbers, words that are reached, and, where no references are wanted, addresses of anything.
func (p *player) anyItems(refs bool) []int {
	n := min(max(p.anyNumber(p.most), 0), 2*api.MaxSlots)
	items := make([]int, n)
	kept := append(p.reached(), 0)
	for k := range items {
		switch {
		case p.Intn(3) == 0:
			items[k] = kept[p.Intn(len(kept))]
		case refs:
			items[k] = 2*p.Intn(1000) - 999
		default:
			items[k] = p.Intn(2 * p.words)
		}
	}
	return items
}

func (p *player) new() {
	n, refs := p.anyNumber(p.most), p.Intn(2) == 0
	w, ok := list.New(p.Space, n, refs)
	if n < 0 || n > api.MaxSlots {
		p.asks("New", w, ok, 0, false)
		return
	}
	want, wantOk := p.fresh(n, n, refs)
	p.asks("New", w, ok, want, wantOk)
	p.hold(w)
}

func (p *player) of() {
	refs := p.Intn(2) == 0
	items := p.anyItems(refs)
	w, ok := list.Of(p.Space, items, refs)
	if len(items) > api.MaxSlots {
		p.asks("Of", w, ok, 0, false)
		return
	}
	want, wantOk := p.fresh(len(items), len(items), refs, items)
	p.asks("Of", w, ok, want, wantOk)
	p.hold(w)
}

func (p *player) cut() {
	w := p.anySlice()
	x := p.slices[w]
	low, high := p.anyNumber(cap(x)), p.anyNumber(cap(x))
	if low > high && p.Intn(4) > 0 {
		low, high = high, low
	}
	got, ok := list.Cut(p.Space, w, low, high)
	want, wantOk := 0, false
	switch isWithin := low >= 0 && low <= high && high <= cap(x); {
	case isWithin && w == 0:
		wantOk = true
	case isWithin:
		want, wantOk = p.view(p.home[w], x[low:high])
	}
	p.asks("Cut", got, ok, want, wantOk)
	p.hold(got)
}

func (p *player) append() {
	w, refs := p.anySlice(), p.Intn(2) == 0
	x := p.slices[w]
	items := p.anyItems(refs || p.refs[p.home[w]])
	got, ok := list.Append(p.Space, w, items, refs)
	n := len(x) + len(items)
	want, wantOk := 0, false
	switch {
	case len(items) == 0:
		want, wantOk = w, true
	case n <= cap(x) && n <= api.MaxSlots:
		if want, wantOk = p.view(p.home[w], x[:n]); wantOk {
			p.write(want, len(x), items)
			p.count["appended into the same array"]++
		}
	case n <= api.MaxSlots:
		if want, wantOk = p.fresh(n, min(max(2*cap(x), n), api.MaxSlots), refs, x, items); wantOk {
			p.count["appended into a new array"]++
		}
	}
	p.asks("Append", got, ok, want, wantOk)
	p.hold(got)
}

// put writes into any slice that is there, reached or not.
func (p *player) put() {
	w := p.anySlice()
	if all := slices.Sorted(maps.Keys(p.slices)); len(all) > 0 && p.Intn(3) == 0 {
		w = all[p.Intn(len(all))]
	}
	x := p.slices[w]
	i := p.anyNumber(len(x))
	v := append(p.anyItems(p.refs[p.home[w]]), 0)[0]
	isWithin := i >= 0 && i < len(x)
	if isWithin {
		p.write(w, i, []int{v})
	}
	if ok := list.Put(p.Space, w, i, v); ok != isWithin {
		p.Errorf("Put(%d, %d, %d) = %v", w, i, v, ok)
	}
}

func (p *player) move() {
	switch n := p.Intn(40); {
	case n < 5:
		p.new()
	case n < 10:
		p.of()
	case n < 20:
		p.cut()
	case n < 30:
		p.append()
	case n < 36:
		p.put()
	case n < 38:
		p.drop()
	default:
		p.forget()
		p.Collect()
		p.twin.Collect()
	}
}

// agree asks for all that is there: each slice as it is read, each block as it stands.
func (p *player) agree() {
	for w, x := range p.slices {
		p.shows(w, cap(x), x...)
		array := p.home[w]
		p.stands(w, array, cap(p.arrays[array])-cap(x), len(x), cap(x), p.refs[array], p.arrays[array]...)
	}
	blocks, _, spans := p.Told()
	if blocks != len(p.slices)+len(p.arrays) {
		p.Errorf("%d blocks, not %d and %d", blocks, len(p.slices), len(p.arrays))
	}
	if _, _, want := p.twin.Told(); spans != want {
		p.Errorf("%d spans, not %d", spans, want)
	}
}

func play(t *testing.T, seed, words, most, steps int, count map[string]int) {
	t.Helper()
	p := newPlayer(t, seed, words, most)
	for i := range steps {
		p.move()
		if i%5 == 4 {
			p.agree()
		}
		if t.Failed() {
			t.Fatalf("seed %d, step %d", seed, i)
		}
	}
	count["held at the end"] += len(p.held)
	for what, n := range p.count {
		count[what] += n
	}
}

func happened(t *testing.T, count map[string]int, least int, all ...string) {
	t.Helper()
	for _, what := range all {
		if count[what] < least {
			t.Errorf("%s: only %d", what, count[what])
		}
	}
}

func TestSlicesByChance(t *testing.T) {
	count := map[string]int{}
	for seed := range 80 {
		play(t, seed, 128+37*seed, 100, 400, count)
	}
	happened(t, count, 300, "New", "Of", "Cut", "Append", "appended into the same array", "appended into a new array", "collected", "slices freed", "arrays freed", "no room for a slice", "no room for an array")
}

// TestManyHeldByChance has room for some hundreds of slices that are held at once.
func TestManyHeldByChance(t *testing.T) {
	count := map[string]int{}
	for seed := range 4 {
		play(t, 2000+seed, 64*400, 40, 2500, count)
	}
	happened(t, count, 1000, "New", "Of", "Cut", "Append", "slices freed", "arrays freed", "held at the end")
	happened(t, count, 300, "appended into the same array")
}

// TestLongSlicesByChance comes to the greatest lengths.
func TestLongSlicesByChance(t *testing.T) {
	count := map[string]int{}
	for seed := range 8 {
		play(t, 1000+seed, 64*(800+seed*100), api.MaxSlots, 60, count)
	}
	happened(t, count, 10, "New", "Of", "Cut", "Append", "appended into the same array", "appended into a new array", "collected", "arrays freed")
}
