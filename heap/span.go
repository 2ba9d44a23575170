package heap

import "math/bits"

const (
	spanWords  = 64
	leastSpans = 2
	leastRoom  = 2
	classes    = 6
)

// span is a span's blocks: the room of each, and at which places they are, a bit each. Of a block of several spans all stands in its first one.
type span struct {
	room int
	used uint32
}

// roomAt is the room of the block that begins so many words behind the span's beginning, 0 if none does.
func (sp span) roomAt(offset int) int {
	if sp.room == 0 || offset%sp.room != 0 || sp.used>>(offset/sp.room)&1 == 0 {
		return 0
	}
	return sp.room
}

func (sp span) full() bool {
	return bits.OnesCount32(sp.used) == spanWords/sp.room
}

// classOf is the least class, from 0 on, whose room is enough for n words.
func classOf(n int) int {
	class := 0
	for roomOf(class) < n {
		class++
	}
	return class
}

func roomOf(class int) int {
	return leastRoom << class
}
