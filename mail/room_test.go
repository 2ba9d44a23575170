package mail_test

import (
	"testing"

	"derrick/api"
	"derrick/mail"
	"derrick/sweep"
)

// A space of 128 words has one span. Channels of up to three places have a class of which it has eight places; so such a space is filled place by place.

// filled makes a space of one span in which a channel of references is held, with two cells that nothing else leads to and so many of the five other places taken by blocks that are held, and others by ones that aren't.
func filled(t *testing.T, held, loose int) (desk, int) {
	t.Helper()
	d := newDesk(t, 128)
	w := d.new(3, true)
	d.Hold(w)
	d.push(w, 9)
	d.shift(w, 9)
	for k := range 2 {
		at := d.made(d.Make(sweep.Data, 7, 0))
		d.Set(at, 0, 40+k)
		d.push(w, at)
	}
	for range held {
		d.kept(7)
	}
	for range loose {
		d.made(d.Make(sweep.Data, 7, 0))
	}
	d.tells(3+held+loose, 0)
	return d, w
}

// unhurt asks that the channel of a filled space is as it was made.
func (d desk) unhurt(w int) {
	d.Helper()
	all := mail.Items(d.Space, w)
	d.shows(w, look{refs: true, begins: 1, places: 3}, all...)
	if len(all) != 2 {
		d.Fatalf("%d items", len(all))
	}
	for k, at := range all {
		d.has(at, sweep.Data, 0, 40+k, 0, 0, 0, 0, 0, 0)
	}
}

func TestNoRoom(t *testing.T) {
	for _, refs := range both {
		for places := range api.MaxMake + 1 {
			if places > 70 && places < api.MaxMake-3 {
				continue
			}
			d, w := filled(t, 5, 0)
			d.refused(places, refs)
			d.unhurt(w)
			d.tells(8, 0)
		}
	}
}

// TestRoomBeforeACollection needs none while a place is free, and one behind that.
func TestRoomBeforeACollection(t *testing.T) {
	for _, refs := range both {
		for places := range 4 {
			for held := range 5 {
				d, w := filled(t, held, 0)
				for k := range 5 - held {
					e := d.new(places, refs)
					d.shows(e, look{refs: refs, places: places})
					d.unhurt(w)
					d.tells(4+held+k, 0)
				}
				if d.collections() != 0 {
					t.Error("a collection was made")
				}
				e := d.new(places, refs)
				if d.collections() != 1 {
					t.Errorf("%d collections", d.collections())
				}
				d.shows(e, look{refs: refs, places: places})
				d.unhurt(w)
				d.tells(4+held, 0)
			}
		}
	}
}

// TestRoomBehindACollection takes the place of blocks that nothing leads to.
func TestRoomBehindACollection(t *testing.T) {
	for _, refs := range both {
		for loose := 1; loose < 6; loose++ {
			d, w := filled(t, 5-loose, loose)
			e := d.new(2, refs)
			d.Hold(e)
			if d.collections() != 1 {
				t.Errorf("%d collections", d.collections())
			}
			d.shows(e, look{refs: refs, places: 2})
			d.push(e, w, w)
			d.shows(e, look{refs: refs, places: 2}, w, w)
			d.unhurt(w)
			d.tells(3+5-loose+1, 0)
		}
	}
}

// TestRoomOfWhatWasShiftedOut has a place for a channel only when another's item is taken away.
func TestRoomOfWhatWasShiftedOut(t *testing.T) {
	for _, refs := range both {
		d, w := filled(t, 5, 0)
		d.refused(1, refs)
		at := mail.Items(d.Space, w)[0]
		d.shift(w, at)
		e := d.new(1, refs)
		if e != at {
			t.Errorf("at %d, not %d", e, at)
		}
		d.shows(e, look{refs: refs, places: 1})
		d.tells(8, 0)
	}
}

// TestRoomForManyPlaces wants several spans in a row.
func TestRoomForManyPlaces(t *testing.T) {
	for _, refs := range both {
		for places, spans := range map[int]int{59: 1, 60: 2, 123: 2, 124: 3, 1019: 16, 1020: 17, api.MaxMake: 17} {
			d := newDesk(t, 64*(1+spans))
			d.shows(d.new(places, refs), look{refs: refs, places: places})
			d.tells(1, 0)
			d = newDesk(t, 64*(1+spans))
			d.kept(1)
			d.refused(places, refs)
			d.Drop(1)
			w := d.new(places, refs)
			d.shows(w, look{refs: refs, places: places})
			d.push(w, counted(places)...)
			d.full(w)
			d.shows(w, look{refs: refs, places: places}, counted(places)...)
			d.tells(1, 0)
		}
	}
}

// TestNothingIsHeldAndNothingDropped asks that no call touches what is held.
func TestNothingIsHeldAndNothingDropped(t *testing.T) {
	d := newDesk(t, 256)
	w := d.new(2, true)
	d.Hold(w)
	last := d.kept(1)
	for k := range 60 {
		e := d.new(k%4, true)
		mail.Push(d.Space, e, w)
		mail.Push(d.Space, w, e)
		mail.Shift(d.Space, w)
		mail.Close(d.Space, e)
		mail.New(d.Space, 1000, false)
	}
	d.Collect()
	d.tells(2, 3-2)
	d.Drop(1)
	d.Collect()
	if d.isThere(last) || !d.isThere(w) {
		t.Error("what was held last was not dropped alone")
	}
	d.Drop(1)
	d.Collect()
	d.tells(0, 3)
}

// TestRootsMayHoldTheChannels has them told by the function Roots, nothing held.
func TestRootsMayHoldTheChannels(t *testing.T) {
	d := newDesk(t, 64*5)
	w := d.new(20, true)
	d.Roots = func(yield func(int)) { yield(w) }
	var cells []int
	for k := range 20 {
		cells = append(cells, d.cell(k))
		d.push(w, cells[k])
		for range 20 {
			d.new(2, false)
		}
		d.fits(true, 0, cells...)
	}
	if d.collections() < 5 {
		t.Errorf("%d collections", d.collections())
	}
	d.shift(w, cells...)
	d.Collect()
	d.tells(1, 3)
}
