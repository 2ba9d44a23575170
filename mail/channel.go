package mail

import "derrick/space"

// The words of a channel's block; behind them stand its places.
const (
	wordClosed = iota
	wordBegins
	wordCount
	wordPlaces
	words
)

// channel is what a channel's block tells of its list.
type channel struct {
	begins, count, places int
}

// open reads a channel's block. Of nil all is 0; so it is of a block that can't be a channel's, that no call divides by 0 or goes on without an end.
func open(s *space.Space, w int) channel {
	c := channel{s.Get(w, wordBegins), s.Get(w, wordCount), s.Get(w, wordPlaces)}
	_, size, _ := s.Head(w)
	if c.places != size-words || c.count < 0 || c.count > c.places {
		return channel{}
	}
	return c
}

// place is where the item k stands among the places.
func (c channel) place(k int) int {
	return (c.begins + k) % c.places
}

// item is which word of the block the item k is.
func (c channel) item(k int) int {
	return words + c.place(k)
}
