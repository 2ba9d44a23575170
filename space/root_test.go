package space_test

import (
	"math"
	"testing"

	"derrick/api"
	"derrick/sweep"
)

func TestHoldOfWhatIsNoReference(t *testing.T) {
	r := newRoom(t, 256)
	a, b := r.refs(1, 2, 3), r.refs(4, 5, 6)
	for _, w := range []int{0, 1, -1, a + 1, a + 2, b + 4, -a, 63, 128, 255, 256, 1 << 20, 1<<32 + a, sweep.Header(sweep.Refs, 3, 0), math.MaxInt, math.MinInt, math.MinInt + a} {
		r.Hold(w)
	}
	r.tells(2, 0, 2)
	r.Hold(a)
	r.collects(1)
	r.tells(1, 1, 2)
	r.has(a, 1, 2, 3)
	r.Drop(1)
	r.collects(1)
	r.tells(0, 2, 3)
	r.collects(0)
	r.tells(0, 3, 3)
}

// TestAWordThatBecomesAReference holds an address ahead of the block that is made there.
func TestAWordThatBecomesAReference(t *testing.T) {
	r := newRoom(t, 128)
	r.Hold(64)
	r.collects(0)
	r.goes(3, 64)
	r.collects(0)
	r.tells(1, 2, 0)
	r.Drop(1)
	r.collects(1)
}

func TestHoldOfOneWordTwice(t *testing.T) {
	r := newRoom(t, 256)
	a := r.refs(7)
	r.Hold(a)
	r.Hold(a)
	r.collects(0)
	r.Drop(1)
	r.collects(0)
	r.has(a, 7)
	r.Drop(1)
	r.collects(1)
	r.tells(0, 3, 3)
}

func TestDrop(t *testing.T) {
	for _, x := range []struct{ drop, left int }{
		{0, 5}, {1, 4}, {2, 3}, {4, 1}, {5, 0}, {6, 0}, {100, 0}, {math.MaxInt, 0}, {-1, 5}, {-5, 5}, {-100, 5}, {math.MinInt, 5},
	} {
		r := newRoom(t, 256)
		var blocks []int
		for k := range 5 {
			blocks = append(blocks, r.refs(k))
		}
		for _, at := range blocks {
			r.Hold(at)
		}
		r.Drop(x.drop)
		r.tells(5, 0, 2)
		r.collects(5 - x.left)
		r.isThere(true, blocks[:x.left]...)
		r.isThere(false, blocks[x.left:]...)
	}
}

func TestDropTakesTheLastThatIsHeldThen(t *testing.T) {
	r := newRoom(t, 256)
	a, b, c, d := r.refs(), r.refs(), r.refs(), r.refs()
	r.Drop(3)
	r.Hold(a)
	r.Hold(b)
	r.Drop(1)
	r.Hold(c)
	r.Drop(-1)
	r.Hold(d)
	r.Drop(0)
	r.collects(1)
	r.isThere(true, a, c, d)
	r.Drop(2)
	r.Hold(d)
	r.collects(1)
	r.isThere(true, a, d)
	r.Drop(9)
	r.Drop(9)
	r.Hold(d)
	r.collects(1)
	r.isThere(true, d)
}

func TestManyAreHeld(t *testing.T) {
	r := newRoom(t, 1<<16)
	var blocks []int
	for k := range 10000 {
		blocks = append(blocks, r.refs(k))
		r.Hold(blocks[k])
	}
	r.collects(0)
	r.Drop(4000)
	r.collects(4000)
	for k, at := range blocks[:6000] {
		r.has(at, k)
	}
	r.Drop(10000)
	r.collects(6000)
	r.tells(0, 3, 1023)
}

func TestAChainHeldByOneWord(t *testing.T) {
	r := newRoom(t, 1024)
	chain := []int{r.refs(0)}
	for k := 1; k < 50; k++ {
		chain = append(chain, r.refs(chain[k-1]))
	}
	r.refs(chain[49])
	r.Hold(chain[49])
	r.collects(1)
	r.tells(50, 1, 13)
	r.Set(chain[20], 0, 0)
	r.collects(20)
	r.isThere(false, chain[:20]...)
	r.isThere(true, chain[20:]...)
	r.Drop(1)
	r.Hold(chain[30])
	r.collects(19)
	r.isThere(true, chain[20:31]...)
	r.Drop(1)
	r.collects(11)
	r.tells(0, 4, 15)
}

func TestARingHeldByOneWord(t *testing.T) {
	for held := range 5 {
		r := newRoom(t, 1024)
		var ring []int
		for range 5 {
			ring = append(ring, r.refs(0))
		}
		for k, at := range ring {
			r.Set(at, 0, ring[(k+1)%5])
		}
		self := r.refs(0)
		r.Set(self, 0, self)
		r.Hold(ring[held])
		r.collects(1)
		r.isThere(true, ring...)
		r.collects(0)
		r.Drop(1)
		r.collects(5)
		r.tells(0, 3, 15)
	}
}

// TestALongChain fills the greatest space with one chain: what is reached must not nest as deep as it is long.
func TestALongChain(t *testing.T) {
	r := newRoom(t, api.MaxWords)
	last := 0
	for range (api.MaxWords - 64) / 2 {
		last = r.refs(last)
	}
	r.tells((api.MaxWords-64)/2, 0, 0)
	r.Hold(last)
	r.noPlace(sweep.Data, 0, 0)
	r.tells((api.MaxWords-64)/2, 1, 0)
	r.Drop(1)
	r.Hold(r.Get(last, 0))
	r.goes(1, last)
	r.tells((api.MaxWords-64)/2, 2, 0)
}

func TestBlocksThatOnlyRootsLeadsTo(t *testing.T) {
	r := newRoom(t, 256)
	a, b, c := r.refs(1), r.refs(2), r.refs(3)
	r.Set(c, 0, b)
	told := []int{0, c, -1, 3, c, c + 1, math.MinInt, 999998}
	r.Roots = func(yield func(int)) {
		for _, w := range told {
			yield(w)
		}
	}
	r.collects(1)
	r.isThere(false, a)
	r.has(b, 2)
	r.has(c, b)
	r.tells(2, 1, 2)
	told = []int{b}
	r.collects(1)
	r.isThere(false, c)
	r.tells(1, 2, 2)
	r.Roots = func(yield func(int)) {}
	r.Hold(b)
	r.collects(0)
	r.Drop(1)
	r.Roots = nil
	r.collects(1)
	r.tells(0, 4, 3)
}

func TestHeldOnesAndRootsTogether(t *testing.T) {
	r := newRoom(t, 256)
	a, b, c, d := r.refs(), r.refs(), r.refs(), r.refs()
	r.Hold(a)
	r.Hold(b)
	r.Roots = func(yield func(int)) { yield(b); yield(c) }
	r.collects(1)
	r.isThere(false, d)
	r.Drop(2)
	r.collects(1)
	r.isThere(true, b, c)
	r.isThere(false, a)
}

// TestWhatRootsTellsIsNotKept asks Roots at each collection anew.
func TestWhatRootsTellsIsNotKept(t *testing.T) {
	r := newRoom(t, 256)
	a, b := r.refs(1), r.refs(2)
	asked := 0
	var late func(int)
	r.Roots = func(yield func(int)) {
		asked++
		if late == nil {
			late = yield
			yield(a)
			yield(b)
		} else {
			late(a)
			yield(b)
		}
	}
	r.collects(0)
	late(a)
	r.Set(b, 0, 5)
	r.Told()
	r.Head(a)
	r.collects(1)
	r.isThere(false, a)
	r.has(b, 5)
	if asked != 2 {
		t.Errorf("asked %d times", asked)
	}
	r.Drop(3)
	r.Roots = nil
	r.collects(1)
}

// TestRootsThatHolds holds a block while a collection asks for roots.
func TestRootsThatHolds(t *testing.T) {
	r := newRoom(t, 256)
	a, b := r.refs(1), r.refs(2)
	r.Roots = func(yield func(int)) {
		if _, collections, _ := r.Told(); collections == 0 {
			r.Hold(r.Get(b, 0) + a - 2)
		}
	}
	r.collects(1)
	r.isThere(true, a)
	r.isThere(false, b)
	r.collects(0)
}

func TestToldAfterEachStep(t *testing.T) {
	r := newRoom(t, 256)
	r.tells(0, 0, 3)
	a := r.made(sweep.Data, 1, 0)
	r.tells(1, 0, 2)
	b := r.made(sweep.Refs, 3, 0)
	r.tells(2, 0, 1)
	r.Set(b, 0, a)
	r.Hold(b)
	r.tells(2, 0, 1)
	c := r.made(sweep.Refs, 63, 0)
	r.tells(3, 0, 0)
	r.Set(b, 1, c)
	r.noPlace(sweep.Data, 7, 0)
	r.tells(3, 1, 0)
	r.Set(b, 1, 0)
	r.goes(7, c)
	r.tells(3, 2, 0)
	r.collects(1)
	r.tells(2, 3, 1)
	r.noPlace(sweep.Data, 64, 0)
	r.tells(2, 4, 1)
	r.noPlace(0, 64, 0)
	r.tells(2, 4, 1)
	r.Drop(1)
	r.tells(2, 4, 1)
	r.collects(2)
	r.tells(0, 5, 3)
	r.collects(0)
	r.tells(0, 6, 3)
}
