package list_test

import (
	"math"
	"slices"
	"testing"

	"derrick/api"
	"derrick/list"
	"derrick/space"
	"derrick/sweep"
)

var both = []bool{false, true}

func TestExamples(t *testing.T) {
	d := newDesk(t, 4096)
	a := d.of(false, 1, 2)
	d.shows(a, 2, 1, 2)
	b := d.append(a, false, 3)
	d.shows(b, 4, 1, 2, 3)
	if d.array(b) == d.array(a) {
		t.Error("3 was appended into the same array")
	}
	c := d.append(b, false, 4)
	d.shows(c, 4, 1, 2, 3, 4)
	if d.array(c) != d.array(b) {
		t.Error("4 was appended into another array")
	}
	d.shows(d.cut(c, 1, 4), 3, 2, 3, 4)
	d.shows(a, 2, 1, 2)
	d.shows(b, 4, 1, 2, 3)
}

func TestNewOfEachLength(t *testing.T) {
	for _, refs := range both {
		for n := range 200 {
			d := newDesk(t, 2048)
			w := d.new(n, refs)
			d.shows(w, n, make([]int, n)...)
			d.stands(w, d.array(w), 0, n, n, refs, make([]int, n)...)
			if blocks, collections, _ := d.Told(); blocks != 2 || collections != 0 {
				t.Errorf("New(%d): %d blocks, %d collections", n, blocks, collections)
			}
		}
	}
}

func TestOfEachLength(t *testing.T) {
	for _, refs := range both {
		for n := range 200 {
			d := newDesk(t, 2048)
			w := d.of(refs, counted(n)...)
			d.shows(w, n, counted(n)...)
			d.stands(w, d.array(w), 0, n, n, refs, counted(n)...)
			if blocks, collections, _ := d.Told(); blocks != 2 || collections != 0 {
				t.Errorf("Of %d: %d blocks, %d collections", n, blocks, collections)
			}
		}
	}
}

// TestTheArrayIsMadeFirst asks for the places: where both blocks have one class, and where the array takes the lowest span.
func TestTheArrayIsMadeFirst(t *testing.T) {
	for n, at := range map[int][2]int{
		0: {64, 128}, 1: {64, 128}, 2: {64, 128}, 3: {64, 128},
		4: {64, 72}, 5: {64, 72}, 7: {64, 72},
		8: {64, 128}, 15: {64, 128}, 63: {64, 128},
		64: {64, 192}, 127: {64, 192}, 128: {64, 256},
	} {
		for _, refs := range both {
			d := newDesk(t, 1024)
			w := d.new(n, refs)
			if d.array(w) != at[0] || w != at[1] {
				t.Errorf("New(%d): at %d, %d", n, d.array(w), w)
			}
			d = newDesk(t, 1024)
			w = d.of(refs, counted(n)...)
			if d.array(w) != at[0] || w != at[1] {
				t.Errorf("Of %d: at %d, %d", n, d.array(w), w)
			}
		}
	}
}

func TestAnyNumberIsAnItem(t *testing.T) {
	all := []int{0, -1, 1, math.MaxInt, math.MinInt, 64, 72, -64, 1 << 32, sweep.Header(sweep.Refs, 5, 0), 7, 7}
	for _, refs := range both {
		d := newDesk(t, 1024)
		w := d.of(refs, all...)
		d.shows(w, len(all), all...)
		d.stands(w, d.array(w), 0, len(all), len(all), refs, all...)
		d.shows(d.append(w, refs, all...), 2*len(all), append(slices.Clone(all), all...)...)
		e := d.new(len(all), refs)
		for i, v := range all {
			d.put(e, i, v)
		}
		d.shows(e, len(all), all...)
	}
}

func TestEachSliceHasAnArrayOfItsOwn(t *testing.T) {
	d := newDesk(t, 1024)
	var made []int
	for range 3 {
		made = append(made, d.new(3, false), d.of(false, 1, 2, 3), d.new(0, false), d.of(false))
	}
	for k, w := range made {
		for _, v := range made[:k] {
			if v == w || d.array(v) == d.array(w) {
				t.Errorf("%d and %d share a block", v, w)
			}
		}
	}
	if blocks, _, _ := d.Told(); blocks != 2*len(made) {
		t.Errorf("%d blocks", blocks)
	}
}

func TestTheEmptySliceIsNotNil(t *testing.T) {
	for _, refs := range both {
		d := newDesk(t, 1024)
		for _, w := range []int{d.new(0, refs), d.of(refs), d.made(list.Of(d.Space, nil, refs))} {
			if w == 0 {
				t.Error("nil")
			}
			d.shows(w, 0)
			d.stands(w, d.array(w), 0, 0, 0, refs)
		}
		d.tells(6, 13)
	}
}

func TestTheGreatestLength(t *testing.T) {
	for _, refs := range both {
		for _, n := range []int{api.MaxSlots - 1, api.MaxSlots} {
			d := newDesk(t, 64*800)
			w := d.new(n, refs)
			d.shows(w, n, make([]int, n)...)
			d.stands(w, d.array(w), 0, n, n, refs, make([]int, n)...)
			e := d.of(refs, counted(n)...)
			d.shows(e, n, counted(n)...)
			d.stands(e, d.array(e), 0, n, n, refs, counted(n)...)
			d.tells(4, 799-2*((n+64)/64)-1)
		}
	}
}

func TestWrongLengths(t *testing.T) {
	for _, refs := range both {
		d := newDesk(t, 64*1000)
		kept := d.of(refs, 1, 2, 3)
		d.idle(func() {
			for _, n := range []int{-1, -2, math.MinInt, api.MaxSlots + 1, api.MaxSlots + 2, api.MaxSlots + 63, api.MaxSlots + 64, 1 << 32, math.MaxInt} {
				if w, ok := list.New(d.Space, n, refs); w != 0 || ok {
					t.Errorf("New(%d) = %d, %v", n, w, ok)
				}
			}
			for _, n := range []int{api.MaxSlots + 1, api.MaxSlots + 63, api.MaxSlots + 64, 3 * api.MaxSlots} {
				if w, ok := list.Of(d.Space, make([]int, n), refs); w != 0 || ok {
					t.Errorf("Of %d = %d, %v", n, w, ok)
				}
			}
		})
		d.shows(kept, 3, 1, 2, 3)
	}
}

// TestZerosWhereOthersWere makes slices where ones with other items were.
func TestZerosWhereOthersWere(t *testing.T) {
	d := newDesk(t, 256)
	for n := range 60 {
		d.of(false, slices.Repeat([]int{-1}, n)...)
		d.Collect()
		w := d.new(n, false)
		d.shows(w, n, make([]int, n)...)
		d.Collect()
		d.of(false, slices.Repeat([]int{-1}, 60)...)
		d.Collect()
		half := d.append(d.new(n/2, true), true, 5)
		_, c := list.Size(d.Space, half)
		d.shows(d.cut(half, n/2+1, c), c-n/2-1, make([]int, c-n/2-1)...)
		d.Collect()
	}
}

// TestItemsAreReadAlone asks that a list that is handed in is neither changed nor kept, its spare room neither.
func TestItemsAreReadAlone(t *testing.T) {
	d := newDesk(t, 1024)
	all := counted(20)
	items := all[3:6]
	w := d.of(false, items...)
	wide := d.cut(d.new(8, false), 0, 0)
	e := d.append(wide, false, items...)
	g := d.append(w, false, items...)
	if !slices.Equal(all, counted(20)) {
		t.Errorf("the list was changed: %v", all)
	}
	clear(all)
	d.shows(w, 3, 4, 5, 6)
	d.shows(e, 8, 4, 5, 6)
	d.shows(g, 6, 4, 5, 6, 4, 5, 6)
	for _, x := range []int{w, e, g} {
		d.put(x, 0, 99)
	}
	if !slices.Equal(all, make([]int, 20)) {
		t.Errorf("the list was kept: %v", all)
	}
}

func TestTheSameStepsMakeTheSameWords(t *testing.T) {
	play := func() (made []int) {
		s := space.New(2048)
		w := 0
		for k := range 300 {
			e, _ := list.New(s, k%20, k%2 == 0)
			w, _ = list.Append(s, w, []int{k, e}, false)
			if k%50 == 49 {
				w = 0
			}
			s.Drop(1)
			s.Hold(w)
			c, _ := list.Cut(s, w, 0, 1)
			made = append(made, e, w, c)
		}
		return made
	}
	if !slices.Equal(play(), play()) {
		t.Error("the same steps made other words")
	}
}
