package vm

import (
	"derrick/api"
	"derrick/code"
	"derrick/list"
	"derrick/mail"
)

const (
	badIndex  = "index out of range"
	badBounds = "slice bounds out of range"
)

// listOperation does what makes slices and channels, and what works on parts of slices and texts.
func (m *machine) listOperation(f *frame, i *code.Instr) {
	switch i.Op {
	case code.List:
		w := must(list.Of(m.space, f.list(i.List), i.B == 1))
		f.set(i.A, m.ofNewArray(w))
	case code.MakeSlice, code.MakeChan:
		m.makeThing(f, i)
	case code.Index:
		m.index(f, i)
	case code.SetIndex:
		if !list.Put(m.space, f.get(i.A), f.get(i.B), f.get(i.C)) {
			f.raise(badIndex)
		}
	case code.TextIndex:
		m.textIndex(f, i)
	case code.Slice:
		m.slice(f, i)
	case code.SubText:
		m.subText(f, i)
	case code.Append:
		m.appendItems(f, i)
	}
}

// ofNewArray hands on a slice whose array was made for it.
func (m *machine) ofNewArray(w int) int {
	_, capacity := list.Size(m.space, w)
	m.made.Arrays++
	m.pay(capacity)
	return w
}

// makeThing makes a slice or a channel of so many items or places.
func (m *machine) makeThing(f *frame, i *code.Instr) {
	n := f.get(i.B)
	switch {
	case n < 0 || n > api.MaxMake:
		f.raise("bad length")
	case i.Op == code.MakeSlice:
		f.set(i.A, m.ofNewArray(must(list.New(m.space, n, i.C == 1))))
	default:
		f.set(i.A, must(mail.New(m.space, n, i.C == 1)))
		m.made.Chans++
		m.pay(n)
	}
}

func (m *machine) index(f *frame, i *code.Instr) {
	w, ok := list.At(m.space, f.get(i.B), f.get(i.C))
	if !ok {
		f.raise(badIndex)
		return
	}
	f.set(i.A, w)
}

// bound is what a register has, or, if none is said, something else.
func (f *frame) bound(r, otherwise int) int {
	if r < 0 {
		return otherwise
	}
	return f.get(r)
}

// bounds are from where to where a slicing goes; false, and the function panics, if that is more than there is.
func (f *frame) bounds(i *code.Instr, length, capacity int) (low, high int, ok bool) {
	low, high = f.bound(i.C, 0), f.bound(i.D, length)
	if low < 0 || low > high || high > capacity {
		f.raise(badBounds)
		return 0, 0, false
	}
	return low, high, true
}

func (m *machine) slice(f *frame, i *code.Instr) {
	w := f.get(i.B)
	length, capacity := list.Size(m.space, w)
	if low, high, ok := f.bounds(i, length, capacity); ok {
		f.set(i.A, must(list.Cut(m.space, w, low, high)))
	}
}

func (m *machine) appendItems(f *frame, i *code.Instr) {
	w, items := f.get(i.B), f.list(i.List)
	length, capacity := list.Size(m.space, w)
	wanted := length + len(items)
	if wanted > api.MaxSlots {
		f.raise("slice too long")
		return
	}
	longer := must(list.Append(m.space, w, items, i.C == 1))
	if wanted > capacity {
		m.ofNewArray(longer)
	}
	f.set(i.A, longer)
}

// size is the length or capacity of a word.
func (m *machine) size(op, w int) int {
	length, capacity := 0, 0
	switch op {
	case code.TextLen:
		return m.length(w)
	case code.SliceLen, code.SliceCap:
		length, capacity = list.Size(m.space, w)
	default:
		length, capacity = mail.Count(m.space, w)
	}
	if op == code.SliceLen || op == code.ChanLen {
		return length
	}
	return capacity
}
