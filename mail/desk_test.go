package mail_test

import (
	"maps"
	"slices"
	"testing"

	"derrick/mail"
	"derrick/space"
	"derrick/sweep"
)

var both = []bool{false, true}

// desk is a space with what a test does to it and asks of it.
type desk struct {
	*testing.T
	*space.Space
	words int
}

func newDesk(t *testing.T, words int) desk {
	t.Helper()
	s := space.New(words)
	if s == nil {
		t.Fatalf("no space of %d words", words)
	}
	return desk{t, s, words}
}

// made asks that a call made what it should.
func (d desk) made(w int, ok bool) int {
	d.Helper()
	if !ok || w == 0 {
		d.Fatalf("%d, %v: nothing was made", w, ok)
	}
	return w
}

func (d desk) new(places int, refs bool) int {
	d.Helper()
	return d.made(mail.New(d.Space, places, refs))
}

// kept makes a block of data that is held.
func (d desk) kept(size int) int {
	d.Helper()
	at := d.made(d.Make(sweep.Data, size, 0))
	d.Hold(at)
	return at
}

func (d desk) push(w int, items ...int) {
	d.Helper()
	for _, v := range items {
		if !mail.Push(d.Space, w, v) {
			d.Errorf("Push(%d, %d) is false", w, v)
		}
	}
}

func (d desk) shift(w int, items ...int) {
	d.Helper()
	for _, want := range items {
		if v, ok := mail.Shift(d.Space, w); v != want || !ok {
			d.Errorf("Shift(%d) = %d, %v; not %d", w, v, ok, want)
		}
	}
}

func (d desk) close(w int) {
	d.Helper()
	if !mail.Close(d.Space, w) {
		d.Errorf("Close(%d) is false", w)
	}
}

// full asks that a push is refused, and changes nothing.
func (d desk) full(w int) {
	d.Helper()
	d.idle(func() {
		if mail.Push(d.Space, w, 77) {
			d.Errorf("Push(%d) is true", w)
		}
	})
}

// empty asks that there is nothing to shift, and that nothing is changed by it.
func (d desk) empty(w int) {
	d.Helper()
	d.idle(func() {
		if v, ok := mail.Shift(d.Space, w); v != 0 || ok {
			d.Errorf("Shift(%d) = %d, %v", w, v, ok)
		}
	})
}

// look is all that a channel must show.
type look struct {
	refs, closed   bool
	begins, places int
}

// words lays a channel's block out as the chapter says; where no item stands there is 0.
func (x look) words(items ...int) []int {
	all := make([]int, 4+x.places)
	if x.closed {
		all[0] = 1
	}
	all[1], all[2], all[3] = x.begins, len(items), x.places
	for k, v := range items {
		all[4+(x.begins+k)%x.places] = v
	}
	return all
}

// shows asks for all that can be told of a channel, and for its block.
func (d desk) shows(w int, x look, items ...int) {
	d.Helper()
	if n, m := mail.Count(d.Space, w); n != len(items) || m != x.places {
		d.Errorf("Count(%d) = %d, %d; not %d, %d", w, n, m, len(items), x.places)
	}
	if c := mail.Closed(d.Space, w); c != x.closed {
		d.Errorf("Closed(%d) = %v", w, c)
	}
	if all := mail.Items(d.Space, w); !slices.Equal(all, items) {
		d.Errorf("Items(%d) = %.100v, not %.100v", w, all, items)
	}
	if x.refs {
		d.has(w, sweep.Behind, 4, x.words(items...)...)
	} else {
		d.has(w, sweep.Data, 0, x.words(items...)...)
	}
}

// has asks for a block as it stands in the space.
func (d desk) has(at, kind, mask int, words ...int) {
	d.Helper()
	if k, n, m := d.Head(at); k != kind || n != len(words) || m != mask {
		d.Errorf("Head(%d) = %d, %d, %d; not %d, %d, %d", at, k, n, m, kind, len(words), mask)
	}
	for k, want := range words {
		if got := d.Get(at, k); got != want {
			d.Errorf("Get(%d, %d) = %d, not %d", at, k, got, want)
		}
	}
}

func (d desk) isThere(at int) bool {
	kind, _, _ := d.Head(at)
	return kind != 0
}

// tells asks for how many blocks there are, and how many free spans.
func (d desk) tells(blocks, spans int) {
	d.Helper()
	if b, _, s := d.Told(); b != blocks || s != spans {
		d.Errorf("told %d blocks, %d spans; not %d, %d", b, s, blocks, spans)
	}
}

func (d desk) collections() int {
	_, n, _ := d.Told()
	return n
}

// picture is every block with its header and words, by its address.
func picture(s *space.Space, words int) map[int][]int {
	all := map[int][]int{}
	for at := range words {
		kind, size, mask := s.Head(at)
		if kind == 0 {
			continue
		}
		all[at] = []int{kind, size, mask}
		for k := range size {
			all[at] = append(all[at], s.Get(at, k))
		}
	}
	return all
}

// same asks that a space has the same blocks at two times.
func (d desk) same(got, want map[int][]int) {
	d.Helper()
	if maps.EqualFunc(got, want, slices.Equal) {
		return
	}
	for at, words := range got {
		if !slices.Equal(words, want[at]) {
			d.Errorf("at %d: %.100v, not %.100v", at, words, want[at])
		}
	}
	for at, words := range want {
		if got[at] == nil {
			d.Errorf("at %d: nothing, not %.100v", at, words)
		}
	}
}

// idle does something that must change nothing at all, and make no collection.
func (d desk) idle(do func()) {
	d.Helper()
	before, collections := picture(d.Space, d.words), d.collections()
	do()
	d.same(picture(d.Space, d.words), before)
	if n := d.collections(); n != collections {
		d.Errorf("%d collections were made", n-collections)
	}
}

// refused asks that a channel has no room, and that the space is as a collection leaves it.
func (d desk) refused(places int, refs bool) {
	d.Helper()
	d.Collect()
	before, collections := picture(d.Space, d.words), d.collections()
	if w, ok := mail.New(d.Space, places, refs); w != 0 || ok {
		d.Errorf("New of %d places = %d, %v", places, w, ok)
	}
	d.same(picture(d.Space, d.words), before)
	if n := d.collections() - collections; n != 1 {
		d.Errorf("%d collections were made", n)
	}
}

// counted are the numbers 1 to n.
func counted(n int) []int {
	all := make([]int, n)
	for k := range all {
		all[k] = k + 1
	}
	return all
}
