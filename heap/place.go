package heap

import "math/bits"

// place takes the place of a new block for n words.
func (h *Heap) place(n int) (int, bool) {
	if n <= spanWords {
		return h.placeInClass(classOf(n))
	}
	return h.placeInRow((n + spanWords - 1) / spanWords)
}

func (h *Heap) placeInClass(class int) (int, bool) {
	s, ok := h.open[class].least()
	if !ok {
		if s, ok = h.free.least(); !ok {
			return 0, false
		}
		h.give(s, 1, roomOf(class))
		h.open[class].add(s)
	}
	sp := &h.spans[s]
	place := bits.TrailingZeros32(^sp.used)
	sp.used |= 1 << place
	if sp.full() {
		h.open[class].remove(s)
	}
	return s*spanWords + place*sp.room, true
}

// placeInRow takes the lowest count free spans that stand in a row, as one block.
func (h *Heap) placeInRow(count int) (int, bool) {
	row := 0
	for s := range h.spans {
		if !h.free.has(s) {
			row = 0
			continue
		}
		if row++; row == count {
			first := s + 1 - count
			h.give(first, count, count*spanWords)
			h.spans[first].used = 1
			return first * spanWords, true
		}
	}
	return 0, false
}

// give takes spans out of the free ones; those behind the first have no room of their own, for no block begins there.
func (h *Heap) give(first, count, room int) {
	h.spans[first].room = room
	for s := first; s < first+count; s++ {
		h.free.remove(s)
	}
}

// release frees the span whose last block has ended, with those behind it that the block went on in.
func (h *Heap) release(first int) {
	room := h.spans[first].room
	h.spans[first] = span{}
	h.free.add(first)
	for s := first + 1; s < first+room/spanWords; s++ {
		h.free.add(s)
	}
	if room <= spanWords {
		h.open[classOf(room)].remove(first)
	}
}
