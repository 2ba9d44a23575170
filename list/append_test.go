package list_test

import (
	"slices"
	"testing"

	"derrick/api"
	"derrick/list"
)

func TestAppendOfNothing(t *testing.T) {
	for _, refs := range both {
		d := newDesk(t, 64*600)
		w := d.of(refs, 1, 2, 3)
		all := []int{0, w, d.cut(w, 1, 2), d.cut(w, 3, 3), d.of(refs), d.new(api.MaxSlots, refs)}
		d.idle(func() {
			for _, w := range all {
				for _, items := range [][]int{nil, {}, counted(3)[:0]} {
					if e, ok := list.Append(d.Space, w, items, refs); e != w || !ok {
						t.Errorf("Append(%d) of nothing = %d, %v", w, e, ok)
					}
				}
			}
		})
	}
}

// TestAppendOfNothingWantsNoRoom asks in a space that is full.
func TestAppendOfNothingWantsNoRoom(t *testing.T) {
	d := newDesk(t, 128)
	w := d.of(false, counted(5)...)
	d.Hold(w)
	for range 6 {
		d.kept(7)
	}
	d.idle(func() {
		for _, w := range []int{0, w} {
			if e, ok := list.Append(d.Space, w, nil, false); e != w || !ok {
				t.Errorf("Append(%d) of nothing = %d, %v", w, e, ok)
			}
		}
	})
}

func TestAppendToNil(t *testing.T) {
	for _, refs := range both {
		for n := 1; n < 100; n++ {
			d := newDesk(t, 1024)
			w := d.append(0, refs, counted(n)...)
			d.shows(w, n, counted(n)...)
			d.stands(w, d.array(w), 0, n, n, refs, counted(n)...)
			if blocks, _, _ := d.Told(); blocks != 2 {
				t.Errorf("%d blocks", blocks)
			}
		}
	}
}

// appends asks for one append to a slice of so many items, 1 and on, behind which the array has room up to a capacity.
func appends(t *testing.T, begins, length, capacity, more int, refs bool) {
	t.Helper()
	d := newDesk(t, 4096)
	whole := d.of(refs, slices.Repeat([]int{-7}, begins+capacity)...)
	w := d.cut(whole, begins, begins+length)
	for i := range length {
		d.put(w, i, i+1)
	}
	before := picture(d.Space, d.words)
	e := d.append(w, refs, counted(length + more)[length:]...)
	after := picture(d.Space, d.words)
	array := slices.Clone(before[d.array(w)][3:])
	if length+more <= capacity {
		copy(array[begins+length:], counted(length + more)[length:])
		d.shows(e, capacity, counted(length+more)...)
		d.stands(e, d.array(w), begins, length+more, capacity, refs, array...)
		copy(before[d.array(w)][3:], array)
	} else {
		room := max(2*capacity, length+more)
		d.shows(e, room, counted(length+more)...)
		d.stands(e, d.array(e), 0, length+more, room, refs, append(counted(length+more), make([]int, room-length-more)...)...)
		if before[d.array(e)] != nil {
			d.Errorf("the array at %d was there", d.array(e))
		}
		delete(after, d.array(e))
	}
	if before[e] != nil {
		d.Errorf("the slice at %d was there", e)
	}
	delete(after, e)
	d.same(after, before)
}

// TestAppendOfEachSize goes through capacities that are enough, one too few, and less than half of what is wanted.
func TestAppendOfEachSize(t *testing.T) {
	for _, refs := range both {
		for begins := range 3 {
			for capacity := range 8 {
				for length := range capacity + 1 {
					for more := 1; more < 20; more++ {
						appends(t, begins, length, capacity, more, refs)
					}
				}
			}
		}
	}
}

func TestAppendOfGreaterSizes(t *testing.T) {
	for _, capacity := range []int{63, 64, 100, 127, 128, 300} {
		for _, length := range []int{0, 1, capacity / 2, capacity - 1, capacity} {
			for _, more := range []int{1, 2, capacity - length, capacity - length + 1, capacity, 2*capacity - length, 2*capacity - length + 1, 3 * capacity} {
				if more > 0 {
					appends(t, 5, length, capacity, more, false)
				}
			}
		}
	}
}

// TestAppendedItemsAreShared asks that what goes into the same array is seen by slices that reach there, and by no others.
func TestAppendedItemsAreShared(t *testing.T) {
	d := newDesk(t, 1024)
	whole := d.of(false, 1, 2, 3, 4, 5, 6)
	short := d.cut(whole, 0, 2)
	mid := d.cut(whole, 1, 4)
	other := d.of(false, 1, 2, 3, 4, 5, 6)
	a := d.append(short, false, 30, 40)
	d.shows(a, 6, 1, 2, 30, 40)
	d.shows(short, 6, 1, 2)
	d.shows(whole, 6, 1, 2, 30, 40, 5, 6)
	d.shows(mid, 5, 2, 30, 40)
	b := d.append(short, false, 31)
	d.shows(b, 6, 1, 2, 31)
	d.shows(a, 6, 1, 2, 31, 40)
	d.shows(whole, 6, 1, 2, 31, 40, 5, 6)
	c := d.append(mid, false, 51, 61)
	d.shows(c, 5, 2, 31, 40, 51, 61)
	d.shows(whole, 6, 1, 2, 31, 40, 51, 61)
	e := d.append(mid, false, 52, 62, 72)
	d.shows(e, 10, 2, 31, 40, 52, 62, 72)
	d.shows(whole, 6, 1, 2, 31, 40, 51, 61)
	d.put(e, 0, 99)
	d.put(whole, 2, 98)
	d.shows(e, 10, 99, 31, 40, 52, 62, 72)
	d.shows(c, 5, 2, 98, 40, 51, 61)
	d.shows(other, 6, 1, 2, 3, 4, 5, 6)
}

// TestTheNewArraysKindIsTold asks that refs says of which kind a new array is; the same array stays of its own.
func TestTheNewArraysKindIsTold(t *testing.T) {
	for _, was := range both {
		for _, refs := range both {
			d := newDesk(t, 1024)
			w := d.cut(d.of(was, 1, 2, 3), 0, 2)
			e := d.append(w, refs, 9)
			d.stands(e, d.array(w), 0, 3, 3, was, 1, 2, 9)
			g := d.append(e, refs, 10)
			d.stands(g, d.array(g), 0, 4, 6, refs, 1, 2, 9, 10, 0, 0)
			h := d.append(0, refs, 10)
			d.stands(h, d.array(h), 0, 1, 1, refs, 10)
		}
	}
}

// TestAppendUpToMaxSlots asks what comes of lengths and capacities at the limit.
func TestAppendUpToMaxSlots(t *testing.T) {
	const most = api.MaxSlots
	for _, x := range []struct{ capacity, length, more, want int }{
		{most / 2, most / 2, 1, most},
		{most/2 - 1, most/2 - 1, 1, most - 2},
		{most/2 + 1, most/2 + 1, 1, most},
		{most - 1, most - 1, 1, most},
		{most, most - 1, 1, most},
		{most, 0, most, most},
		{0, 0, most, most},
		{0, 0, most - 1, most - 1},
		{1, 1, most - 1, most},
		{1, 1, most - 2, most - 1},
		{most / 2, 0, most, most},
		{most - 1, 5, most - 5, most},
	} {
		d := newDesk(t, 64*1000)
		w := d.cut(d.new(x.capacity, false), 0, x.length)
		items := slices.Concat(make([]int, x.length), counted(x.more))
		e := d.append(w, false, counted(x.more)...)
		d.shows(e, x.want, items...)
		if isSame := d.array(e) == d.array(w); isSame != (x.length+x.more <= x.capacity) {
			t.Errorf("%+v: the same array: %v", x, isSame)
		}
	}
}

func TestAppendAboveMaxSlots(t *testing.T) {
	const most = api.MaxSlots
	for _, x := range []struct{ capacity, length, more int }{
		{0, 0, most + 1},
		{0, 0, 3 * most},
		{1, 1, most},
		{most, most, 1},
		{most, most, most},
		{most, most - 1, 2},
		{most, 1, most},
		{most, 0, most + 1},
		{most - 1, most - 1, 2},
		{most / 2, most / 2, most/2 + 1},
	} {
		for _, refs := range both {
			d := newDesk(t, 64*1200)
			w := d.cut(d.new(x.capacity, refs), 0, x.length)
			nothing := 0
			if x.capacity > 0 {
				nothing = w
			}
			d.idle(func() {
				if e, ok := list.Append(d.Space, nothing, counted(x.more), refs); e != 0 || ok {
					t.Errorf("%+v: %d, %v", x, e, ok)
				}
			})
		}
	}
}

// TestOneByOne appends item by item, as sources do.
func TestOneByOne(t *testing.T) {
	for _, refs := range both {
		d := newDesk(t, 8192)
		w, want := 0, 0
		for n := range 500 {
			if n == want {
				want = max(2*want, n+1)
			}
			d.Drop(1)
			d.Hold(w)
			w = d.append(w, refs, n+1)
			d.shows(w, want, counted(n+1)...)
		}
	}
}
