package list_test

import (
	"math"
	"testing"

	"derrick/list"
)

// cuts asks for every cut of a slice whose array has so many items, 1 and on, from one on.
func (d desk) cuts(w, begins, whole int, refs bool) {
	d.Helper()
	_, c := list.Size(d.Space, w)
	for low := -1; low <= c+1; low++ {
		for high := -1; high <= c+1; high++ {
			if low < 0 || high < low || high > c {
				d.idle(func() {
					if e, ok := list.Cut(d.Space, w, low, high); e != 0 || ok {
						d.Errorf("Cut(%d, %d, %d) = %d, %v", w, low, high, e, ok)
					}
				})
				continue
			}
			before := picture(d.Space, d.words)
			e := d.cut(w, low, high)
			if before[e] != nil {
				d.Errorf("Cut(%d, %d, %d): %d was there", w, low, high, e)
			}
			d.shows(e, c-low, counted(whole)[begins+low:begins+high]...)
			d.stands(e, d.array(w), begins+low, high-low, c-low, refs, counted(whole)...)
			after := picture(d.Space, d.words)
			delete(after, e)
			d.same(after, before)
		}
	}
}

func TestEveryCut(t *testing.T) {
	for _, refs := range both {
		for n := range 7 {
			d := newDesk(t, 2048)
			d.cuts(d.of(refs, counted(n)...), 0, n, refs)
		}
	}
}

func TestEveryCutOfACut(t *testing.T) {
	for low := range 6 {
		for high := low; high < 6; high++ {
			d := newDesk(t, 2048)
			w := d.cut(d.of(false, counted(5)...), low, high)
			d.cuts(w, low, 5, false)
			if _, c := list.Size(d.Space, w); c > 1 {
				d.cuts(d.cut(w, 1, 1), low+1, 5, false)
				d.cuts(d.cut(w, 0, c), low, 5, false)
			}
		}
	}
}

func TestCutsOfNil(t *testing.T) {
	d := newDesk(t, 256)
	d.idle(func() {
		for low := -2; low < 4; low++ {
			for high := -2; high < 4; high++ {
				if w, ok := list.Cut(d.Space, 0, low, high); w != 0 || ok != (low == 0 && high == 0) {
					t.Errorf("Cut(nil, %d, %d) = %d, %v", low, high, w, ok)
				}
			}
		}
	})
}

// TestTheCutOfNilWantsNoRoom asks in a space that is full.
func TestTheCutOfNilWantsNoRoom(t *testing.T) {
	d := newDesk(t, 128)
	d.kept(63)
	d.idle(func() {
		if w, ok := list.Cut(d.Space, 0, 0, 0); w != 0 || !ok {
			t.Errorf("%d, %v", w, ok)
		}
	})
}

func TestBoundsFarOut(t *testing.T) {
	d := newDesk(t, 1024)
	all := []int{0, d.of(false), d.of(false, 1, 2, 3), d.cut(d.of(true, 1, 2, 3), 2, 3)}
	far := []int{math.MinInt, math.MinInt + 1, -1 << 32, -4, 4, 1 << 32, math.MaxInt - 1, math.MaxInt}
	d.idle(func() {
		for _, w := range all {
			for _, a := range far {
				for _, b := range append(far, 0, 1, 2, 3) {
					for _, x := range [][2]int{{a, b}, {b, a}} {
						if e, ok := list.Cut(d.Space, w, x[0], x[1]); e != 0 || ok {
							t.Errorf("Cut(%d, %d, %d) = %d, %v", w, x[0], x[1], e, ok)
						}
					}
				}
			}
		}
	})
}

// TestACutReachesBehindTheLength takes up what another slice put there.
func TestACutReachesBehindTheLength(t *testing.T) {
	d := newDesk(t, 1024)
	w := d.of(false, 1, 2, 3, 4)
	short := d.cut(w, 0, 1)
	d.put(w, 3, 40)
	d.shows(short, 4, 1)
	d.shows(d.cut(short, 0, 4), 4, 1, 2, 3, 40)
	d.shows(d.cut(short, 2, 4), 2, 3, 40)
	d.shows(d.cut(d.cut(short, 4, 4), 0, 0), 0)
}
