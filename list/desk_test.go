package list_test

import (
	"maps"
	"slices"
	"testing"

	"derrick/list"
	"derrick/space"
	"derrick/sweep"
)

// desk is a space with what a test does to it and asks of it.
type desk struct {
	*testing.T
	*space.Space
	words int
}

func newDesk(t *testing.T, words int) desk {
	t.Helper()
	s := space.New(words)
	if s == nil {
		t.Fatalf("no space of %d words", words)
	}
	return desk{t, s, words}
}

// made asks that a call made what it should.
func (d desk) made(w int, ok bool) int {
	d.Helper()
	if !ok {
		d.Fatalf("%d, %v: nothing was made", w, ok)
	}
	return w
}

func (d desk) new(n int, refs bool) int {
	d.Helper()
	return d.made(list.New(d.Space, n, refs))
}

func (d desk) of(refs bool, items ...int) int {
	d.Helper()
	return d.made(list.Of(d.Space, items, refs))
}

func (d desk) cut(w, low, high int) int {
	d.Helper()
	return d.made(list.Cut(d.Space, w, low, high))
}

func (d desk) append(w int, refs bool, items ...int) int {
	d.Helper()
	return d.made(list.Append(d.Space, w, items, refs))
}

func (d desk) put(w, i, v int) {
	d.Helper()
	if !list.Put(d.Space, w, i, v) {
		d.Errorf("Put(%d, %d, %d) is false", w, i, v)
	}
}

// kept makes a block of data that is held.
func (d desk) kept(size int) int {
	d.Helper()
	at := d.made(d.Make(sweep.Data, size, 0))
	d.Hold(at)
	return at
}

// shows asks for all that can be told of a slice.
func (d desk) shows(w int, capacity int, items ...int) {
	d.Helper()
	if n, c := list.Size(d.Space, w); n != len(items) || c != capacity {
		d.Errorf("Size(%d) = %d, %d; not %d, %d", w, n, c, len(items), capacity)
	}
	for i, want := range items {
		if v, ok := list.At(d.Space, w, i); v != want || !ok {
			d.Errorf("At(%d, %d) = %d, %v; not %d", w, i, v, ok, want)
		}
	}
	for _, i := range []int{-1, len(items), len(items) + 1} {
		if v, ok := list.At(d.Space, w, i); v != 0 || ok {
			d.Errorf("At(%d, %d) = %d, %v", w, i, v, ok)
		}
	}
}

// has asks for a block as it stands in the space.
func (d desk) has(at, kind, mask int, words ...int) {
	d.Helper()
	if k, n, m := d.Head(at); k != kind || n != len(words) || m != mask {
		d.Errorf("Head(%d) = %d, %d, %d; not %d, %d, %d", at, k, n, m, kind, len(words), mask)
	}
	for k, want := range words {
		if got := d.Get(at, k); got != want {
			d.Errorf("Get(%d, %d) = %d, not %d", at, k, got, want)
		}
	}
}

// stands asks for a slice's block, and for all items of its array.
func (d desk) stands(w int, array, begins, length, capacity int, refs bool, items ...int) {
	d.Helper()
	d.has(w, sweep.Masked, 1, array, begins, length, capacity)
	d.has(array, kindOf(refs), 0, items...)
}

func kindOf(refs bool) int {
	if refs {
		return sweep.Refs
	}
	return sweep.Data
}

func (d desk) array(w int) int {
	return d.Get(w, 0)
}

// tells asks for how many blocks there are, and how many free spans.
func (d desk) tells(blocks, spans int) {
	d.Helper()
	if b, _, s := d.Told(); b != blocks || s != spans {
		d.Errorf("told %d blocks, %d spans; not %d, %d", b, s, blocks, spans)
	}
}

func (d desk) collections() int {
	_, n, _ := d.Told()
	return n
}

// picture is every block with its header and words, by its address.
func picture(s *space.Space, words int) map[int][]int {
	all := map[int][]int{}
	for at := range words {
		kind, size, mask := s.Head(at)
		if kind == 0 {
			continue
		}
		all[at] = []int{kind, size, mask}
		for k := range size {
			all[at] = append(all[at], s.Get(at, k))
		}
	}
	return all
}

// same asks that two spaces, or one at two times, have the same blocks.
func (d desk) same(got, want map[int][]int) {
	d.Helper()
	if maps.EqualFunc(got, want, slices.Equal) {
		return
	}
	for at, words := range got {
		if !slices.Equal(words, want[at]) {
			d.Errorf("at %d: %.100v, not %.100v", at, words, want[at])
		}
	}
	for at, words := range want {
		if got[at] == nil {
			d.Errorf("at %d: nothing, not %.100v", at, words)
		}
	}
}

// idle does something that must change nothing at all, and make no collection.
func (d desk) idle(do func()) {
	d.Helper()
	before, collections := picture(d.Space, d.words), d.collections()
	do()
	d.same(picture(d.Space, d.words), before)
	if n := d.collections(); n != collections {
		d.Errorf("%d collections were made", n-collections)
	}
}

// refused asks that a call made nothing, and that the space is as a collection leaves it.
func (d desk) refused(do func() (int, bool)) {
	d.Helper()
	d.Collect()
	before, collections := picture(d.Space, d.words), d.collections()
	if w, ok := do(); w != 0 || ok {
		d.Errorf("%d, %v: something was made", w, ok)
	}
	d.same(picture(d.Space, d.words), before)
	if d.collections() == collections {
		d.Error("no room, and no collection was made")
	}
}

// counted are the numbers 1 to n.
func counted(n int) []int {
	all := make([]int, n)
	for k := range all {
		all[k] = k + 1
	}
	return all
}
