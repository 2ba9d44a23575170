package walk

import (
	"derrick/api"
	"derrick/code"
)

const (
	badIndex  = "index out of range"
	badBounds = "slice bounds out of range"
)

// listOperation does what makes slices and channels, and what works on parts of slices and texts.
func (m *machine) listOperation(f *frame, i *code.Instr) {
	switch i.Op {
	case code.List:
		f.set(i.A, sliceValue(m.array(f.list(i.List), len(i.List))))
	case code.MakeSlice, code.MakeChan:
		m.makeThing(f, i)
	case code.Index:
		if place := f.itemOf(i.B, i.C); place != nil {
			f.set(i.A, *place)
		}
	case code.SetIndex:
		if place := f.itemOf(i.A, i.B); place != nil {
			*place = f.get(i.C)
		}
	case code.TextIndex:
		byteOf(f, i)
	case code.Slice:
		cut(f, i)
	case code.SubText:
		cutText(f, i)
	case code.Append:
		m.appendItems(f, i)
	}
}

// array makes an array of items, and the slice of all of it that has the length.
func (m *machine) array(items []value, length int) *slice {
	m.made.Arrays++
	m.pay(len(items))
	return &slice{items: items, length: length}
}

// makeThing makes a slice or a channel of so many items or places.
func (m *machine) makeThing(f *frame, i *code.Instr) {
	n := f.get(i.B).number
	switch {
	case n < 0 || n > api.MaxMake:
		f.raise("bad length")
	case i.Op == code.MakeSlice:
		f.set(i.A, sliceValue(m.array(make([]value, n), n)))
	default:
		m.made.Chans++
		f.set(i.A, value{thing: &channel{places: n}})
	}
}

// itemOf is where an item of a slice stands; if the slice has none there the function panics.
func (f *frame) itemOf(list, index int) *value {
	s, k := f.get(list).slice(), f.get(index).number
	if length, _ := s.sizes(); k < 0 || k >= length {
		f.raise(badIndex)
		return nil
	}
	return &s.items[k]
}

func byteOf(f *frame, i *code.Instr) {
	text, k := f.get(i.B).text(), f.get(i.C).number
	if k < 0 || k >= len(text) {
		f.raise(badIndex)
		return
	}
	f.set(i.A, numberValue(int(text[k])))
}

// sizes are a slice's length and capacity.
func (s *slice) sizes() (length, capacity int) {
	if s == nil {
		return 0, 0
	}
	return s.length, len(s.items)
}

// bound is what a register has, or, if none is said, something else.
func (f *frame) bound(r, otherwise int) int {
	if r < 0 {
		return otherwise
	}
	return f.get(r).number
}

// bounds are from where to where a slicing goes; false, and the function panics, if that is more than there is.
func (f *frame) bounds(i *code.Instr, length, capacity int) (low, high int, ok bool) {
	low, high = f.bound(i.C, 0), f.bound(i.D, length)
	if low < 0 || low > high || high > capacity {
		f.raise(badBounds)
		return 0, 0, false
	}
	return low, high, true
}

func cut(f *frame, i *code.Instr) {
	s := f.get(i.B).slice()
	length, capacity := s.sizes()
	low, high, ok := f.bounds(i, length, capacity)
	if !ok {
		return
	}
	if s != nil {
		s = &slice{items: s.items[low:], length: high - low}
	}
	f.set(i.A, sliceValue(s))
}

func cutText(f *frame, i *code.Instr) {
	text := f.get(i.B).text()
	if low, high, ok := f.bounds(i, len(text), len(text)); ok {
		f.set(i.A, textValue(text[low:high]))
	}
}

func (m *machine) appendItems(f *frame, i *code.Instr) {
	s, items := f.get(i.B).slice(), f.list(i.List)
	length, capacity := s.sizes()
	wanted := length + len(items)
	switch {
	case len(items) == 0:
	case wanted > api.MaxSlots:
		f.raise("slice too long")
		return
	case wanted <= capacity:
		copy(s.items[length:], items)
		s = &slice{items: s.items, length: wanted}
	default:
		s = m.grown(s, items)
	}
	f.set(i.A, sliceValue(s))
}

// grown is a slice of a new array with the items of a slice, and further ones.
func (m *machine) grown(s *slice, items []value) *slice {
	length, capacity := s.sizes()
	wanted := length + len(items)
	all := make([]value, min(max(2*capacity, wanted), api.MaxSlots))
	if s != nil {
		copy(all, s.items[:length])
	}
	copy(all[length:], items)
	return m.array(all, wanted)
}

// size is the length or capacity of a value.
func size(op int, v value) int {
	switch op {
	case code.TextLen:
		return len(v.text())
	case code.SliceLen:
		length, _ := v.slice().sizes()
		return length
	case code.SliceCap:
		_, capacity := v.slice().sizes()
		return capacity
	}
	c := v.channel()
	switch {
	case c == nil:
		return 0
	case op == code.ChanLen:
		return len(c.list)
	}
	return c.places
}
