package mail_test

import (
	"math"
	"slices"
	"testing"

	"derrick/api"
	"derrick/mail"
	"derrick/sweep"
)

// TestTheListGoesRound begins the list at every place, with every number of items, and asks for the block behind each call.
func TestTheListGoesRound(t *testing.T) {
	for _, refs := range both {
		for _, isClosed := range both {
			for places := 1; places < 10; places++ {
				for begins := range places {
					for count := range places + 1 {
						d := newDesk(t, 256)
						d.round(look{refs, isClosed, begins, places}, count)
					}
				}
			}
		}
	}
}

// round brings a new channel's list to where it begins, fills it up to a number of items, shifts them all, and fills it whole.
func (d desk) round(x look, count int) {
	d.Helper()
	w := d.new(x.places, x.refs)
	for range x.begins {
		d.push(w, 99)
		d.shift(w, 99)
	}
	if x.closed {
		d.close(w)
	}
	d.shows(w, x)
	all := counted(x.places)
	for k, v := range all[:count] {
		d.push(w, v)
		d.shows(w, x, all[:k+1]...)
	}
	for k, v := range all[:count] {
		d.shift(w, v)
		x.begins = (x.begins + 1) % x.places
		d.shows(w, x, all[k+1:count]...)
	}
	d.empty(w)
	d.push(w, all...)
	d.full(w)
	d.shows(w, x, all...)
	d.tells(1, d.words/64-2)
}

// TestAFullListGoesRound shifts and pushes in turn, so that all places are taken, wherever it begins.
func TestAFullListGoesRound(t *testing.T) {
	for _, refs := range both {
		for _, places := range []int{1, 2, 3, 58, 59, 60, 123, 124, api.MaxMake - 1, api.MaxMake} {
			d := newDesk(t, 64*18)
			w := d.new(places, refs)
			all := counted(3*places + 5)
			d.push(w, all[:places]...)
			for k, v := range all[:2*places+3] {
				if k < 3 || k%50 == 0 || k >= places-1 && k < places+2 || k >= 2*places {
					d.full(w)
					d.shows(w, look{refs: refs, begins: k % places, places: places}, all[k:k+places]...)
				}
				d.shift(w, v)
				d.push(w, all[k+places])
			}
		}
	}
}

func TestAChannelWithoutPlaces(t *testing.T) {
	for _, refs := range both {
		d := newDesk(t, 1024)
		w := d.new(0, refs)
		for range 2 {
			d.full(w)
			d.empty(w)
		}
		d.shows(w, look{refs: refs})
		d.close(w)
		d.full(w)
		d.empty(w)
		d.shows(w, look{refs: refs, closed: true})
	}
}

// TestAClosedChannelGoesOn asks that it takes and gives items as an open one does.
func TestAClosedChannelGoesOn(t *testing.T) {
	for _, refs := range both {
		d := newDesk(t, 1024)
		w := d.new(3, refs)
		x := look{refs: refs, closed: true, places: 3}
		d.push(w, 1, 2)
		d.close(w)
		d.shows(w, x, 1, 2)
		d.push(w, 3)
		d.full(w)
		d.shows(w, x, 1, 2, 3)
		d.shift(w, 1, 2)
		d.push(w, 4)
		x.begins = 2
		d.shows(w, x, 3, 4)
		d.shift(w, 3, 4)
		d.empty(w)
		x.begins = 1
		d.shows(w, x)
	}
}

func TestNothingToShift(t *testing.T) {
	for _, refs := range both {
		d := newDesk(t, 1024)
		w := d.new(2, refs)
		d.empty(w)
		for k := range 9 {
			d.push(w, k)
			d.shift(w, k)
			d.empty(w)
			d.empty(w)
			d.shows(w, look{refs: refs, begins: (k + 1) % 2, places: 2})
		}
	}
}

func TestAnyNumberIsAnItem(t *testing.T) {
	all := []int{0, -1, 1, math.MaxInt, math.MinInt, 64, 72, -64, 1 << 32, sweep.Header(sweep.Refs, 5, 0), 7, 7, 0, 0}
	for _, refs := range both {
		d := newDesk(t, 1024)
		w := d.new(len(all), refs)
		d.push(w, all...)
		d.shows(w, look{refs: refs, places: len(all)}, all...)
		d.shift(w, all...)
		d.empty(w)
	}
}

// TestItemsAreMemoryOfTheirOwn changes what was answered, its spare room too.
func TestItemsAreMemoryOfTheirOwn(t *testing.T) {
	for _, refs := range both {
		d := newDesk(t, 1024)
		w := d.new(4, refs)
		d.push(w, 9, 9, 1, 2)
		d.shift(w, 9, 9)
		d.push(w, 3)
		x := look{refs: refs, begins: 2, places: 4}
		first, second := mail.Items(d.Space, w), mail.Items(d.Space, w)
		d.idle(func() {
			clear(first[:cap(first)])
			_ = append(first, 5)
		})
		d.shows(w, x, 1, 2, 3)
		if !slices.Equal(second, []int{1, 2, 3}) {
			t.Errorf("two answers share memory: %v", second)
		}
		d.shift(w, 1)
		d.push(w, 4, 5)
		if !slices.Equal(second, []int{1, 2, 3}) {
			t.Errorf("an answer is changed by later calls: %v", second)
		}
	}
}

func TestReadingChangesNothing(t *testing.T) {
	d := newDesk(t, 1024)
	for _, refs := range both {
		w := d.new(5, refs)
		d.push(w, 1, 2, 3)
		d.shift(w, 1)
		d.idle(func() {
			for range 3 {
				mail.Count(d.Space, w)
				mail.Closed(d.Space, w)
				mail.Items(d.Space, w)
			}
		})
	}
}

// TestPushAndShiftChangeTheirWordsAlone holds each call against what stood there ahead of it.
func TestPushAndShiftChangeTheirWordsAlone(t *testing.T) {
	for _, refs := range both {
		d := newDesk(t, 1024)
		d.kept(9)
		w := d.new(3, refs)
		d.push(d.new(3, refs), 8, 9)
		for k := range 12 {
			before := picture(d.Space, d.words)
			before[w][3+2]++
			before[w][3+4+k%3] = 50 + k
			d.push(w, 50+k)
			d.same(picture(d.Space, d.words), before)
			if k == 0 {
				continue
			}
			before[w][3+2]--
			before[w][3+1] = k % 3
			before[w][3+4+(k-1)%3] = 0
			d.shift(w, 49+k)
			d.same(picture(d.Space, d.words), before)
		}
		if d.collections() != 0 {
			t.Error("a collection was made")
		}
	}
}

// TestTwoChannelsHaveNothingToDoWithEachOther plays on two that stand side by side.
func TestTwoChannelsHaveNothingToDoWithEachOther(t *testing.T) {
	for _, refs := range both {
		d := newDesk(t, 1024)
		a, b := d.new(3, refs), d.new(3, !refs)
		x, y := look{refs: refs, places: 3}, look{refs: !refs, places: 3}
		if a == b {
			t.Fatal("one channel twice")
		}
		d.push(a, 1, 2, 3)
		d.shows(b, y)
		d.push(b, 4)
		d.close(b)
		y.closed = true
		d.shows(a, x, 1, 2, 3)
		d.shift(a, 1, 2)
		x.begins = 2
		d.shows(b, y, 4)
		d.shift(b, 4)
		d.empty(b)
		y.begins = 1
		d.shows(a, x, 3)
		d.shows(b, y)
	}
}
