package walk

import "derrick/code"

// value is what a register, a variable, a field, an item or a place of a channel holds. The zero value is the one of every type: 0, false, the empty string, nil.
type value struct {
	number int // of a bool 0 or 1
	thing  any // a string, *box, *object, *slice, *channel or *function; of all else nil
}

// box is where a variable stands that several functions share.
type box struct {
	value value
}

type object struct {
	fields []value
}

// slice shares its items with all slices of its array: they begin where it does, and are as many as its capacity.
type slice struct {
	items  []value
	length int
}

// function is a function of the program, with the boxes of the variables that it was made among.
type function struct {
	of    *code.Func
	boxes []value
}

// The things that a value may lead to. Of a value that leads to something else, as it may in a program that comes of no source, they are nil, and the text is empty.

func (v value) text() string {
	text, _ := v.thing.(string)
	return text
}

func (v value) box() *box {
	b, _ := v.thing.(*box)
	return b
}

func (v value) object() *object {
	o, _ := v.thing.(*object)
	return o
}

func (v value) slice() *slice {
	s, _ := v.thing.(*slice)
	return s
}

func (v value) channel() *channel {
	c, _ := v.thing.(*channel)
	return c
}

func (v value) function() *function {
	f, _ := v.thing.(*function)
	return f
}

func numberValue(n int) value {
	return value{number: n}
}

func boolValue(holds bool) value {
	if holds {
		return value{number: 1}
	}
	return value{}
}

func textValue(text string) value {
	return value{thing: text}
}

// sliceValue keeps a nil slice nil: a value that leads to it leads to nothing.
func sliceValue(s *slice) value {
	if s == nil {
		return value{}
	}
	return value{thing: s}
}

// item is the item k of a list; zero, if the list has none there.
func item[T any](list []T, k int) T {
	if k >= 0 && k < len(list) {
		return list[k]
	}
	var none T
	return none
}

// put sets the item k of a list, if the list has one there.
func put(list []value, k int, v value) {
	if k >= 0 && k < len(list) {
		list[k] = v
	}
}
