package list

import (
	"derrick/space"
	"derrick/sweep"
)

// The words of a slice's block.
const (
	wordArray = iota
	wordBegins
	wordLength
	wordCapacity
	words
)

// references is the mask of a slice's block: its array alone is a reference.
const references = 1 << wordArray

// slice is what a slice's block has.
type slice struct {
	array, begins, length, capacity int
}

// open reads a slice's block. Of nil all is 0: a space has no block there.
func open(s *space.Space, w int) slice {
	return slice{s.Get(w, wordArray), s.Get(w, wordBegins), s.Get(w, wordLength), s.Get(w, wordCapacity)}
}

func (x slice) has(i int) bool {
	return i >= 0 && i < x.length
}

// block makes a slice's block. Its array is held meanwhile: to a new one nothing else leads, and the block may want a collection.
func block(s *space.Space, x slice) (int, bool) {
	s.Hold(x.array)
	w, ok := s.Make(sweep.Masked, words, references)
	s.Drop(1)
	if !ok {
		return 0, false
	}
	s.Set(w, wordArray, x.array)
	s.Set(w, wordBegins, x.begins)
	s.Set(w, wordLength, x.length)
	s.Set(w, wordCapacity, x.capacity)
	return w, true
}

// fresh makes an array of zeros, and a slice of its first n items.
func fresh(s *space.Space, n int, capacity int, refs bool) (int, bool) {
	kind := sweep.Data
	if refs {
		kind = sweep.Refs
	}
	array, ok := s.Make(kind, capacity, 0)
	if !ok {
		return 0, false
	}
	w, ok := block(s, slice{array, 0, n, capacity})
	if !ok {
		s.Collect() // an array without a slice would be told of as a block, by a call that has made nothing
		return 0, false
	}
	return w, true
}

// write sets items of an array, from one on.
func write(s *space.Space, array int, from int, items []int) {
	for k, v := range items {
		s.Set(array, from+k, v)
	}
}
