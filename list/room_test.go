package list_test

import (
	"testing"

	"derrick/api"
	"derrick/list"
	"derrick/sweep"
)

// A space of 128 words has one span. Arrays of four to seven items have the class of a slice's block, of which the span has eight places; so such a space is filled place by place.

// filled makes a space of one span in which a slice of 1 to 5 is held, with so many of its six other places taken by blocks that are held, and others by ones that aren't.
func filled(t *testing.T, refs bool, held, loose int) (desk, int) {
	t.Helper()
	d := newDesk(t, 128)
	w := d.of(refs, counted(5)...)
	d.Hold(w)
	for range held {
		d.kept(7)
	}
	for range loose {
		d.made(d.Make(sweep.Data, 7, 0))
	}
	d.tells(2+held+loose, 0)
	return d, w
}

// makers are the calls that want an array of six and a slice's block, which are of one class.
func makers(d desk, refs bool) map[string]func() (int, bool) {
	return map[string]func() (int, bool){
		"New":           func() (int, bool) { return list.New(d.Space, 6, refs) },
		"Of":            func() (int, bool) { return list.Of(d.Space, []int{0, 0, 0, 0, 0, 0}, refs) },
		"Append to nil": func() (int, bool) { return list.Append(d.Space, 0, []int{0, 0, 0, 0, 0, 0}, refs) },
	}
}

func TestNoRoomForTheArray(t *testing.T) {
	for _, refs := range both {
		d, w := filled(t, refs, 6, 0)
		for name, do := range makers(d, refs) {
			before := d.collections()
			d.refused(do)
			if n := d.collections() - before; n != 2 { // one of them is the test's
				t.Errorf("%s: %d collections", name, n)
			}
			d.shows(w, 5, 1, 2, 3, 4, 5)
		}
	}
}

func TestNoRoomForTheSliceAlone(t *testing.T) {
	for _, refs := range both {
		d, w := filled(t, refs, 5, 0)
		for range 3 {
			for _, do := range makers(d, refs) {
				d.refused(do)
				d.shows(w, 5, 1, 2, 3, 4, 5)
			}
		}
		if at, ok := d.Make(sweep.Data, 7, 0); !ok || at != 64+56 {
			t.Errorf("the last place: %d, %v", at, ok)
		}
	}
}

// TestNoRoomForEitherBehindACollection has one place that isn't held: the array takes it when it is collected, or takes the free one.
func TestNoRoomForEitherBehindACollection(t *testing.T) {
	for _, refs := range both {
		for _, name := range []string{"New", "Of", "Append to nil"} {
			d, w := filled(t, refs, 5, 1)
			if e, ok := makers(d, refs)[name](); e != 0 || ok {
				t.Errorf("%s: %d, %v", name, e, ok)
			}
			d.tells(7, 0)
			d.shows(w, 5, 1, 2, 3, 4, 5)
		}
	}
}

// TestRoomByACollection has two places that aren't held, or one and one that is free. The array must be there still when the slice's block wants a collection.
func TestRoomByACollection(t *testing.T) {
	for _, refs := range both {
		for loose := 1; loose <= 2; loose++ {
			for _, name := range []string{"New", "Of", "Append to nil"} {
				d, w := filled(t, refs, 4, loose)
				e, ok := makers(d, refs)[name]()
				if !ok || d.collections() != 1 {
					t.Errorf("%s: %d, %v, with %d collections", name, e, ok, d.collections())
				}
				d.tells(8, 0)
				d.shows(e, 6, 0, 0, 0, 0, 0, 0)
				d.stands(e, d.array(e), 0, 6, 6, refs, 0, 0, 0, 0, 0, 0)
				d.shows(w, 5, 1, 2, 3, 4, 5)
			}
		}
	}
}

// TestNothingStaysHeld asks that what a call held is dropped, and that it dropped nothing else.
func TestNothingStaysHeld(t *testing.T) {
	d := newDesk(t, 256)
	w := d.cut(d.of(false, counted(5)...), 0, 2)
	d.Hold(w)
	last := d.kept(1)
	for range 50 {
		d.new(3, true)
		d.of(true, 1, 2)
		d.cut(w, 0, 1)
		d.append(w, false, 8)
		d.append(w, false, 8, 9, 10, 11)
		list.New(d.Space, 1000, false)
	}
	d.Collect()
	d.tells(3, 3-2)
	d.shows(w, 5, 1, 2)
	d.Drop(1)
	d.Collect()
	d.tells(2, 3-1)
	if kind, _, _ := d.Head(last); kind != 0 {
		t.Error("what was held last was not dropped")
	}
	d.Drop(1)
	d.Collect()
	d.tells(0, 3)
}

func TestNoRoomForLongArrays(t *testing.T) {
	for _, refs := range both {
		d := newDesk(t, 64*257)
		kept := d.of(refs, 1, 2, 3, 4)
		d.Hold(kept)
		for _, n := range []int{api.MaxSlots, api.MaxSlots - 1, 255 * 64} {
			d.refused(func() (int, bool) { return list.New(d.Space, n, refs) })
			d.refused(func() (int, bool) { return list.Of(d.Space, counted(n), refs) })
			d.refused(func() (int, bool) { return list.Append(d.Space, 0, counted(n), refs) })
			d.refused(func() (int, bool) { return list.Append(d.Space, kept, counted(n-4), refs) })
		}
		w := d.of(refs, counted(255*64-1)...)
		d.tells(4, 0)
		d.shows(w, 255*64-1, counted(255*64-1)...)
		d.shows(kept, 4, 1, 2, 3, 4)
	}
}

// TestTheArrayTakesTheLastSpan has room for the array, but no span for the slice's class.
func TestTheArrayTakesTheLastSpan(t *testing.T) {
	for _, n := range []int{0, 1, 2, 3, 8, 31, 32, 63} {
		for _, refs := range both {
			d := newDesk(t, 128)
			d.refused(func() (int, bool) { return list.New(d.Space, n, refs) })
			d.refused(func() (int, bool) { return list.Of(d.Space, counted(n), refs) })
			if n > 0 {
				d.refused(func() (int, bool) { return list.Append(d.Space, 0, counted(n), refs) })
			}
			d.tells(0, 1)
			d.made(d.Make(sweep.Data, 63, 0))
		}
	}
}

func TestNoRoomForACut(t *testing.T) {
	for _, refs := range both {
		d, w := filled(t, refs, 6, 0)
		d.refused(func() (int, bool) { return list.Cut(d.Space, w, 0, 5) })
		d.refused(func() (int, bool) { return list.Cut(d.Space, w, 5, 5) })
		d.idle(func() {
			if e, ok := list.Cut(d.Space, w, 0, 6); e != 0 || ok {
				t.Errorf("%d, %v", e, ok)
			}
		})
		d.shows(w, 5, 1, 2, 3, 4, 5)
		d.Drop(1)
		before := d.collections()
		e := d.cut(w, 1, 3)
		if d.collections() != before+1 {
			t.Error("the cut's room did not come of a collection")
		}
		d.shows(e, 4, 2, 3)
		d.shows(w, 5, 1, 2, 3, 4, 5)
		d.tells(8, 0)
	}
}

// TestNoRoomForAnAppendIntoTheSameArray asks that nothing was written there.
func TestNoRoomForAnAppendIntoTheSameArray(t *testing.T) {
	for _, refs := range both {
		d, w := filled(t, refs, 5, 0)
		short := d.cut(w, 0, 2)
		d.Hold(short)
		d.refused(func() (int, bool) { return list.Append(d.Space, short, []int{8, 9}, refs) })
		d.refused(func() (int, bool) { return list.Append(d.Space, short, []int{8, 9, 10}, refs) })
		d.shows(w, 5, 1, 2, 3, 4, 5)
		d.shows(short, 5, 1, 2)
		d.Drop(2)
		d.Hold(short)
		before := d.collections()
		e := d.append(short, refs, 8, 9)
		if d.collections() != before+1 {
			t.Error("the room did not come of a collection")
		}
		d.shows(e, 5, 1, 2, 8, 9)
		d.shows(w, 5, 1, 2, 8, 9, 5)
	}
}

// TestNoRoomForAnAppendThatGrows wants an array of six and a slice's block. The slice from which w is cut isn't held: a collection frees its place.
func TestNoRoomForAnAppendThatGrows(t *testing.T) {
	for _, refs := range both {
		for held := 3; held <= 5; held++ {
			d := newDesk(t, 128)
			w := d.cut(d.of(refs, 7, 7, 1, 2, 3), 2, 5)
			d.Hold(w)
			for range held {
				d.kept(7)
			}
			grows := func() (int, bool) { return list.Append(d.Space, w, []int{4}, refs) }
			if held == 5 {
				d.refused(grows)
				d.shows(w, 3, 1, 2, 3)
				d.Drop(1)
			}
			before := d.collections()
			e := d.made(grows())
			if n := d.collections() - before; n != min(held-3, 1) {
				t.Errorf("%d collections", n)
			}
			d.shows(e, 6, 1, 2, 3, 4)
			d.stands(e, d.array(e), 0, 4, 6, refs, 1, 2, 3, 4, 0, 0)
			d.stands(w, d.array(w), 2, 3, 3, refs, 7, 7, 1, 2, 3)
		}
	}
}

// TestItemsThatAreReferencesAreKept makes slices of blocks that are held alone meanwhile.
func TestItemsThatAreReferencesAreKept(t *testing.T) {
	d := newDesk(t, 192)
	a, b := d.kept(1), d.kept(1)
	for range 40 {
		d.Set(a, 0, 5)
		d.Set(b, 0, 6)
		w := d.of(true, a, b, a, b)
		d.shows(w, 4, a, b, a, b)
		if d.Get(a, 0) != 5 || d.Get(b, 0) != 6 {
			t.Fatal("an item was lost")
		}
	}
	w := d.of(true, a, b, 0, 0)
	d.Drop(2)
	d.Hold(w)
	d.Collect()
	d.tells(4, 0)
	if d.Get(a, 0) != 5 || d.Get(b, 0) != 6 {
		t.Error("an item was lost")
	}
	d.Drop(1)
	d.Collect()
	d.tells(0, 2)
}

// grow appends blocks of data with numbers of their own to a slice of references, each held only until it stands there, while others are made and forgotten.
func (d desk) grow(n int) int {
	w := 0
	d.Hold(w)
	for k := range n {
		at := d.kept(2)
		d.Set(at, 0, 1000+k)
		next := d.append(w, true, at)
		d.Drop(2)
		d.Hold(next)
		w = next
		d.new(k%30, true)
		d.of(true, counted(k%9)...)
		d.cut(w, k/2, k)
	}
	return w
}

func TestWhatIsReachedIsKeptAsItGrows(t *testing.T) {
	for _, words := range []int{64 * 24, 64 * 40, 64 * 100, 64 * 1000} {
		d := newDesk(t, words)
		w := d.grow(120)
		if n, _ := list.Size(d.Space, w); n != 120 {
			t.Fatalf("%d items", n)
		}
		for k := range 120 {
			at, _ := list.At(d.Space, w, k)
			d.has(at, sweep.Data, 0, 1000+k, 0)
		}
		if words < 64*100 && d.collections() == 0 {
			t.Error("no collection was made")
		}
		d.Collect()
		if blocks, _, _ := d.Told(); blocks != 122 {
			t.Errorf("%d blocks", blocks)
		}
		d.Drop(1)
		if freed := d.Collect(); freed != 122 {
			t.Errorf("%d were freed", freed)
		}
	}
}

// TestSlicesOfSlices makes a tree of slices of references, held by its root alone, and rings, held by nothing.
func TestSlicesOfSlices(t *testing.T) {
	d := newDesk(t, 64*32)
	root := d.new(0, true)
	d.Hold(root)
	for k := range 40 {
		leaf := d.of(false, k, 64, 72)
		d.Hold(leaf)
		twig := d.of(true, leaf, 0)
		d.Hold(twig)
		root = d.append(root, true, twig)
		d.Drop(3)
		d.Hold(root)
		ring := d.new(2, true)
		d.put(ring, 0, ring)
		d.put(ring, 1, d.array(ring))
	}
	for k := range 40 {
		twig, _ := list.At(d.Space, root, k)
		leaf, _ := list.At(d.Space, twig, 0)
		d.shows(twig, 2, leaf, 0)
		d.shows(leaf, 3, k, 64, 72)
	}
	if d.collections() == 0 {
		t.Error("no collection was made")
	}
	d.Collect()
	if blocks, _, _ := d.Told(); blocks != 2+4*40 {
		t.Errorf("%d blocks", blocks)
	}
	d.Drop(1)
	d.Collect()
	d.tells(0, 31)
}

// TestRootsMayHoldTheSlices has them told by the function Roots, nothing held.
func TestRootsMayHoldTheSlices(t *testing.T) {
	d := newDesk(t, 64*4)
	w := 0
	d.Roots = func(yield func(int)) { yield(w) }
	for k := range 7 {
		w = d.append(w, false, k+1)
		for range 20 {
			d.cut(w, 0, k/2)
			list.New(d.Space, 5, true)
		}
		d.shows(d.cut(w, 0, k+1), []int{1, 2, 4, 4, 8, 8, 8}[k], counted(k+1)...)
	}
	if d.collections() < 5 {
		t.Errorf("%d collections", d.collections())
	}
	d.Collect()
	d.tells(2, 1)
}
