package mail_test

import (
	"math"
	"slices"
	"testing"

	"derrick/api"
	"derrick/mail"
	"derrick/space"
	"derrick/sweep"
)

func TestExample(t *testing.T) {
	for _, refs := range both {
		d := newDesk(t, 1024)
		w := d.new(2, refs)
		d.push(w, 5, 6)
		d.full(w)
		d.shift(w, 5)
		d.push(w, 7)
		d.shows(w, look{refs: refs, begins: 1, places: 2}, 6, 7)
	}
}

// TestNewOfEachSize asks for one block, with the chapter's words and nothing in it.
func TestNewOfEachSize(t *testing.T) {
	for _, refs := range both {
		for places := range api.MaxMake + 1 {
			d := newDesk(t, 64*18)
			w := d.new(places, refs)
			d.shows(w, look{refs: refs, places: places})
			if blocks, collections, _ := d.Told(); blocks != 1 || collections != 0 {
				t.Errorf("New of %d places: %d blocks, %d collections", places, blocks, collections)
			}
		}
	}
}

func TestWrongSizes(t *testing.T) {
	for _, refs := range both {
		d := newDesk(t, 64*600)
		kept := d.new(3, refs)
		d.push(kept, 1, 2)
		d.idle(func() {
			for _, places := range []int{-1, -2, -4, -5, math.MinInt, api.MaxMake + 1, api.MaxMake + 2, 2 * api.MaxMake, api.MaxSlots, api.MaxSlots + 59, api.MaxSlots + 60, 1 << 32, math.MaxInt - 4, math.MaxInt} {
				if w, ok := mail.New(d.Space, places, refs); w != 0 || ok {
					t.Errorf("New of %d places = %d, %v", places, w, ok)
				}
			}
		})
		d.shows(kept, look{refs: refs, places: 3}, 1, 2)
	}
}

// TestWrongSizesWantNoRoom asks in a space that is full.
func TestWrongSizesWantNoRoom(t *testing.T) {
	d := newDesk(t, 128)
	d.kept(63)
	d.idle(func() {
		for _, places := range []int{-1, api.MaxMake + 1} {
			if w, ok := mail.New(d.Space, places, true); w != 0 || ok {
				t.Errorf("New of %d places = %d, %v", places, w, ok)
			}
		}
	})
}

// TestNilHasNothing asks in a space with other blocks, closed and open channels among them.
func TestNilHasNothing(t *testing.T) {
	d := newDesk(t, 1024)
	d.kept(5)
	d.push(d.new(2, true), 5)
	d.close(d.new(2, false))
	d.idle(func() {
		if n, m := mail.Count(d.Space, 0); n != 0 || m != 0 {
			t.Errorf("Count = %d, %d", n, m)
		}
		if mail.Closed(d.Space, 0) {
			t.Error("Closed")
		}
		if mail.Close(d.Space, 0) || mail.Close(d.Space, 0) || mail.Closed(d.Space, 0) {
			t.Error("Close")
		}
		if mail.Push(d.Space, 0, 5) || mail.Push(d.Space, 0, 0) {
			t.Error("Push")
		}
		if v, ok := mail.Shift(d.Space, 0); v != 0 || ok {
			t.Errorf("Shift = %d, %v", v, ok)
		}
		if all := mail.Items(d.Space, 0); len(all) != 0 {
			t.Errorf("Items = %v", all)
		}
	})
}

func TestCloseTwice(t *testing.T) {
	for _, refs := range both {
		for _, places := range []int{0, 1, 5, api.MaxMake} {
			d := newDesk(t, 64*18)
			w := d.new(places, refs)
			x := look{refs: refs, places: places}
			d.shows(w, x)
			d.close(w)
			x.closed = true
			d.shows(w, x)
			for range 3 {
				d.idle(func() {
					if mail.Close(d.Space, w) {
						t.Errorf("%d places: it is closed once more", places)
					}
				})
				d.shows(w, x)
			}
		}
	}
}

// TestCloseChangesOneWord asks with a list that goes round.
func TestCloseChangesOneWord(t *testing.T) {
	for _, refs := range both {
		d := newDesk(t, 1024)
		w, other := d.new(3, refs), d.new(3, refs)
		d.push(w, 1, 2, 3)
		d.shift(w, 1, 2)
		d.push(w, 4)
		before := picture(d.Space, d.words)
		before[w][3] = 1
		d.close(w)
		d.same(picture(d.Space, d.words), before)
		if mail.Closed(d.Space, other) {
			t.Error("the other is closed too")
		}
	}
}

// TestZerosWhereOthersWere makes channels where blocks with other words were.
func TestZerosWhereOthersWere(t *testing.T) {
	d := newDesk(t, 256)
	for places := range 60 {
		for _, refs := range both {
			at := d.made(d.Make(sweep.Data, 4+places, 0))
			for k := range 4 + places {
				d.Set(at, k, 1+k%2)
			}
			d.Collect()
			w := d.new(places, refs)
			if w != at {
				t.Errorf("at %d, not %d", w, at)
			}
			d.shows(w, look{refs: refs, places: places})
			d.Collect()
		}
	}
}

func TestTheSameStepsMakeTheSameWords(t *testing.T) {
	play := func() (all []int) {
		s := space.New(2048)
		for k := range 400 {
			w, ok := mail.New(s, k%23, k%2 == 0)
			if ok && k%9 == 0 {
				s.Hold(w)
			}
			for _, v := range all[len(all)/2:] {
				mail.Push(s, w, v)
			}
			v, _ := mail.Shift(s, w)
			all = append(append(all, w, v), mail.Items(s, w)...)
		}
		return all
	}
	if !slices.Equal(play(), play()) {
		t.Error("the same steps made other words")
	}
}

// TestOtherWordsEndToo calls with words that are no channel's: nothing is promised of them but that every call ends and none panics.
func TestOtherWordsEndToo(t *testing.T) {
	wild := []int{0, 1, -1, 2, 4, 5, 60, 1 << 40, math.MaxInt, math.MinInt}
	for _, begins := range wild {
		for _, count := range wild {
			for _, places := range wild {
				for _, size := range []int{0, 3, 4, 5, 8} {
					d := newDesk(t, 128)
					at := d.made(d.Make(sweep.Data, size, 0))
					d.Set(at, 1, begins)
					d.Set(at, 2, count)
					d.Set(at, 3, places)
					for _, w := range []int{at, at + 1, at + 2, -at, begins} {
						mail.Items(d.Space, w)
						mail.Count(d.Space, w)
						mail.Push(d.Space, w, 7)
						mail.Shift(d.Space, w)
						mail.Closed(d.Space, w)
						mail.Close(d.Space, w)
					}
				}
			}
		}
	}
}
