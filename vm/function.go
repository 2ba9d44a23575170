package vm

import (
	"derrick/code"
	"derrick/sweep"
)

// A closure's block has its function's number, then its boxes.
const (
	wordFunction = iota
	wordBoxes
)

// direct is the word of a function of the file; nil, if no function has the number.
func (m *machine) direct(number int) int {
	if number < 1 || number > len(m.program.Funcs) {
		return 0
	}
	return 2*number + 1
}

// function is the function that is called by a word, of the file or of a closure; nil of nil.
func (m *machine) function(w int) *code.Func {
	number := w / 2
	if w%2 == 0 {
		number = m.space.Get(w, wordFunction)
	}
	if number < 1 || number > len(m.program.Funcs) {
		return nil
	}
	return &m.program.Funcs[number-1]
}

// boxes are those of a closure; a function of the file has none.
func (m *machine) boxes(w int) []int {
	var all []int
	_, size, _ := m.space.Head(w)
	for k := wordBoxes; k < size; k++ {
		all = append(all, m.space.Get(w, k))
	}
	return all
}

// closure makes a closure.
func (m *machine) closure(number int, boxes []int) int {
	w := must(m.space.Make(sweep.Behind, wordBoxes+len(boxes), wordBoxes))
	m.space.Set(w, wordFunction, number)
	for k, box := range boxes {
		m.space.Set(w, wordBoxes+k, box)
	}
	m.made.Closures++
	m.pay(len(boxes))
	return w
}

// box makes a box.
func (m *machine) box(value int, isReference bool) int {
	kind := sweep.Data
	if isReference {
		kind = sweep.Refs
	}
	w := must(m.space.Make(kind, 1, 0))
	m.space.Set(w, 0, value)
	m.made.Boxes++
	return w
}
