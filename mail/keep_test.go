package mail_test

import (
	"testing"

	"derrick/mail"
	"derrick/sweep"
)

// cell makes a block of data with a number of its own, which nothing holds.
func (d desk) cell(n int) int {
	d.Helper()
	at := d.made(d.Make(sweep.Data, 2, 0))
	d.Set(at, 1, n)
	return at
}

// fits asks that every cell is as it was made, or that none is there.
func (d desk) fits(areThere bool, first int, cells ...int) {
	d.Helper()
	for k, at := range cells {
		if areThere {
			d.has(at, sweep.Data, 0, 0, first+k)
		} else if d.isThere(at) {
			d.Errorf("the cell at %d is kept", at)
		}
	}
}

// TestItemsAreKeptWithTheirChannel begins the list at each place of a channel: its items are kept as long as it is held, if they are references.
func TestItemsAreKeptWithTheirChannel(t *testing.T) {
	for _, refs := range both {
		for begins := range 5 {
			for count := range 6 {
				d := newDesk(t, 1024)
				w := d.new(5, refs)
				d.Hold(w)
				for range begins {
					d.push(w, 9)
					d.shift(w, 9)
				}
				var cells []int
				for k := range count {
					cells = append(cells, d.cell(100+k))
					d.push(w, cells[k])
				}
				for range 2 {
					d.Collect()
					d.fits(refs, 100, cells...)
					d.shows(w, look{refs: refs, begins: begins, places: 5}, cells...)
				}
				d.Drop(1)
				d.Collect()
				d.tells(0, 15)
			}
		}
	}
}

// TestWhatIsShiftedOutIsKeptNoMore collects right behind each shift.
func TestWhatIsShiftedOutIsKeptNoMore(t *testing.T) {
	for _, isClosed := range both {
		for places := 1; places < 7; places++ {
			d := newDesk(t, 1024)
			w := d.new(places, true)
			d.Hold(w)
			var cells []int
			for k := range 3 * places {
				if k >= places {
					d.shift(w, cells[0])
					d.Collect()
					d.fits(false, 0, cells[0])
					cells = cells[1:]
				}
				cells = append(cells, d.cell(k))
				d.push(w, cells[len(cells)-1])
				d.fits(true, k+1-len(cells), cells...)
			}
			if isClosed {
				d.close(w)
			}
			for len(cells) > 0 {
				d.shift(w, cells[0])
				if freed := d.Collect(); freed != 1 {
					t.Errorf("%d were freed", freed)
				}
				d.fits(false, 0, cells[0])
				cells = cells[1:]
				d.fits(true, 3*places-len(cells), cells...)
			}
			d.Collect()
			if blocks, _, _ := d.Told(); blocks != 1 {
				t.Errorf("%d blocks", blocks)
			}
		}
	}
}

// TestTheSameItemTwice is kept until it is shifted out twice.
func TestTheSameItemTwice(t *testing.T) {
	d := newDesk(t, 1024)
	w, other := d.new(3, true), d.new(1, true)
	d.Hold(w)
	d.Hold(other)
	at := d.cell(5)
	d.push(w, at, at)
	d.push(other, at)
	for _, from := range []int{w, other} {
		d.shift(from, at)
		d.Collect()
		d.fits(true, 5, at)
	}
	d.shift(w, at)
	d.Collect()
	d.fits(false, 0, at)
}

// TestWhatIsShiftedOutMayBeHeld asks that it is only the channel that keeps it no more.
func TestWhatIsShiftedOutMayBeHeld(t *testing.T) {
	d := newDesk(t, 1024)
	w := d.new(1, true)
	at := d.cell(5)
	d.push(w, at)
	d.shift(w, at)
	d.Hold(at)
	d.Collect()
	d.fits(true, 5, at)
	d.tells(1, 14)
}

// TestNumbersOfAChannelLeadNowhere has words of a channel of references that are addresses, but stand ahead of its places.
func TestNumbersOfAChannelLeadNowhere(t *testing.T) {
	d := newDesk(t, 2048)
	low := d.cell(1)
	var high int
	for high != 128 {
		high = d.made(d.Make(sweep.Data, 7, 0))
	}
	w := d.new(128, true)
	d.Hold(w)
	for range 64 {
		d.push(w, 1)
		d.shift(w, 1)
	}
	for range 64 {
		d.push(w, 1)
	}
	if low != 64 || d.Get(w, 1) != low || d.Get(w, 2) != low || d.Get(w, 3) != high {
		t.Fatalf("%d: the words are no addresses: %d, %d, %d", low, d.Get(w, 1), d.Get(w, 2), d.Get(w, 3))
	}
	d.Collect()
	d.tells(1, 31-3)
}

// TestChannelsOfChannels has a chain of channels, held by its first alone, and rings that nothing holds.
func TestChannelsOfChannels(t *testing.T) {
	d := newDesk(t, 64*13)
	first := d.new(2, true)
	d.Hold(first)
	for last, k := first, 0; k < 40; k++ {
		next := d.new(2, true)
		d.push(last, next)
		d.push(last, d.cell(k))
		ring := d.new(2, true)
		d.push(ring, ring)
		last = next
	}
	if d.collections() == 0 {
		t.Error("no collection was made")
	}
	d.Collect()
	if blocks, _, _ := d.Told(); blocks != 81 {
		t.Errorf("%d blocks", blocks)
	}
	for w, k := first, 0; k < 40; k++ {
		all := mail.Items(d.Space, w)
		if len(all) != 2 {
			t.Fatalf("%v at %d", all, k)
		}
		d.fits(true, k, all[1])
		w = all[0]
	}
	d.shift(first, mail.Items(d.Space, first)[0])
	if freed := d.Collect(); freed != 40+39 {
		t.Errorf("%d were freed", freed)
	}
	d.Drop(1)
	d.Collect()
	d.tells(0, 12)
}
