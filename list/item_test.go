package list_test

import (
	"math"
	"testing"

	"derrick/api"
	"derrick/list"
	"derrick/sweep"
)

func TestNilHasNothing(t *testing.T) {
	d := newDesk(t, 256)
	d.kept(5)
	d.idle(func() {
		d.shows(0, 0)
		for _, i := range []int{math.MinInt, -1, 0, 1, math.MaxInt} {
			if v, ok := list.At(d.Space, 0, i); v != 0 || ok {
				t.Errorf("At(nil, %d) = %d, %v", i, v, ok)
			}
			if list.Put(d.Space, 0, i, 7) {
				t.Errorf("Put(nil, %d) is true", i)
			}
		}
	})
}

// parts are slices of one array of ten items, 1 to 10: of all lengths, with items behind them and without.
func (d desk) parts(refs bool) (all []int) {
	w := d.of(refs, counted(10)...)
	for low := 0; low <= 10; low++ {
		for high := low; high <= 10; high++ {
			all = append(all, d.cut(w, low, high))
		}
	}
	return append(all, w)
}

func TestItemsOutsideTheLength(t *testing.T) {
	for _, refs := range both {
		d := newDesk(t, 4096)
		for _, w := range d.parts(refs) {
			n, c := list.Size(d.Space, w)
			d.idle(func() {
				for _, i := range []int{math.MinInt, math.MinInt + 1, -n - 1, -1, n, n + 1, c, c + 1, 11, api.MaxSlots, 1 << 32, math.MaxInt - 1, math.MaxInt} {
					if i >= 0 && i < n {
						continue
					}
					if v, ok := list.At(d.Space, w, i); v != 0 || ok {
						t.Errorf("At(%d, %d) = %d, %v", w, i, v, ok)
					}
					if list.Put(d.Space, w, i, 77) {
						t.Errorf("Put(%d, %d) is true", w, i)
					}
				}
			})
		}
	}
}

// TestPutIsSeenByAllSlicesOfTheArray puts at each place of each slice, and looks at all others.
func TestPutIsSeenByAllSlicesOfTheArray(t *testing.T) {
	for _, refs := range both {
		d := newDesk(t, 4096)
		parts := d.parts(refs)
		other, copied := d.of(refs, counted(10)...), d.append(parts[len(parts)-1], refs, 11)
		now := counted(10)
		for k, w := range parts {
			begins := d.Get(w, 1)
			n, _ := list.Size(d.Space, w)
			for i := range n {
				now[begins+i] = 1000*k + i
				d.put(w, i, now[begins+i])
			}
			for _, v := range parts {
				from := d.Get(v, 1)
				m, c := list.Size(d.Space, v)
				d.shows(v, c, now[from:from+m]...)
			}
			d.shows(other, 10, counted(10)...)
			d.shows(copied, 20, counted(11)...)
		}
	}
}

// TestPutChangesOneWord asks that nothing else is changed by it, a slice's block neither.
func TestPutChangesOneWord(t *testing.T) {
	d := newDesk(t, 4096)
	for _, w := range d.parts(false) {
		n, _ := list.Size(d.Space, w)
		for i := range n {
			before := picture(d.Space, d.words)
			v := 100*w + i
			before[d.array(w)][3+d.Get(w, 1)+i] = v
			d.put(w, i, v)
			d.same(picture(d.Space, d.words), before)
		}
	}
	if d.collections() != 0 {
		t.Error("a collection was made")
	}
}

func TestReadingChangesNothing(t *testing.T) {
	d := newDesk(t, 4096)
	parts := d.parts(true)
	d.idle(func() {
		for _, w := range parts {
			n, _ := list.Size(d.Space, w)
			for i := -1; i <= n; i++ {
				list.At(d.Space, w, i)
			}
		}
	})
}

// TestReferencesLeadOn asks that what stands in an array of references is kept, and in one of numbers isn't.
func TestReferencesLeadOn(t *testing.T) {
	d := newDesk(t, 1024)
	for _, refs := range both {
		w := d.new(3, refs)
		d.Hold(w)
		e := d.made(d.Make(sweep.Data, 1, 0))
		d.Set(e, 0, 5)
		d.put(w, 2, e)
		d.Collect()
		if kind, _, _ := d.Head(e); (kind != 0) != refs {
			t.Errorf("references: %v; the block is there: %v", refs, kind != 0)
		}
		d.shows(w, 3, 0, 0, e)
		d.put(w, 2, 0)
		d.Collect()
		d.tells(2, 13)
		d.Drop(1)
		d.Collect()
		d.tells(0, 15)
	}
}

// TestNumbersOfASliceLeadNowhere asks that the other words of a slice's block are no references, though they may be addresses.
func TestNumbersOfASliceLeadNowhere(t *testing.T) {
	d := newDesk(t, 4096)
	low := d.made(d.Make(sweep.Data, 1, 0))
	high := d.made(d.Make(sweep.Data, 20, 0))
	w := d.cut(d.new(192, false), 64, 128)
	d.Hold(w)
	d.has(w, sweep.Masked, 1, 192, low, low, high) // from 64 on, 64 items, room for 128
	d.Collect()
	for _, gone := range []int{low, high} {
		if kind, _, _ := d.Head(gone); kind != 0 {
			t.Errorf("the block at %d is still there", gone)
		}
	}
	d.tells(2, 63-4-1)
	d.shows(w, 128, make([]int, 64)...)
}

// TestASliceKeepsItsWholeArray asks that what stands outside a slice is kept by its array.
func TestASliceKeepsItsWholeArray(t *testing.T) {
	d := newDesk(t, 1024)
	a, b := d.of(false, 1), d.of(false, 2)
	w := d.cut(d.of(true, a, 0, b), 1, 2)
	d.Hold(w)
	d.Collect()
	d.tells(2+4, 15-3) // two arrays of numbers of one class; one of references; the slices
	d.shows(w, 2, 0)
	d.shows(d.cut(w, 0, 2), 2, 0, b)
	d.shows(a, 1, 1)
	d.shows(b, 1, 2)
}

// TestOddWords asks of words that are no slice's nothing but that all calls end.
func TestOddWords(t *testing.T) {
	far := []int{math.MinInt, math.MinInt / 2, -1 << 40, -1, 0, 1, 3, 64, api.MaxSlots, 1 << 40, math.MaxInt/2 + 1, math.MaxInt - 2, math.MaxInt}
	for _, begins := range far {
		for _, length := range far {
			for _, capacity := range far {
				d := newDesk(t, 512)
				w := d.made(d.Make(sweep.Masked, 4, 1))
				for k, v := range []int{w, begins, length, capacity} {
					d.Set(w, k, v)
				}
				for _, w := range []int{w, w + 1, w + 2, begins} {
					list.Size(d.Space, w)
					for _, i := range []int{math.MinInt, -1, 0, 1, math.MaxInt} {
						list.At(d.Space, w, i)
						list.Put(d.Space, w, i, 1)
						list.Cut(d.Space, w, i, i)
						list.Cut(d.Space, w, 0, i)
						list.Append(d.Space, w, []int{i, i, i}, true)
					}
				}
			}
		}
	}
}
