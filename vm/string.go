package vm

import (
	"derrick/api"
	"derrick/code"
	"derrick/text"
)

// bytesInWord is how many bytes of a string a word of its block has, behind the first word, which is how many there are.
const bytesInWord = 8

// read is the string that a word is.
func (m *machine) read(w int) string {
	t := text.Bytes(m.space, m.program.Texts, w)
	m.pay(len(t) / bytesInWord)
	return t
}

// write makes a string.
func (m *machine) write(t string) int {
	m.pay(len(t) / bytesInWord)
	return must(text.New(m.space, t))
}

// length is how many bytes a string has. A block tells it by its first word: to read all of it, each time that a loop asks, would take too long.
func (m *machine) length(w int) int {
	if w%2 != 0 {
		return len(m.read(w))
	}
	return m.space.Get(w, 0)
}

// byteAt is the byte k of a string that has one there. It isn't read whole for that either.
func (m *machine) byteAt(w, k int) int {
	if w%2 != 0 {
		return int(m.read(w)[k])
	}
	return m.space.Get(w, 1+k/bytesInWord) >> (8 * (k % bytesInWord)) & 255
}

func (m *machine) textOperation(f *frame, i *code.Instr) {
	left, right := f.get(i.B), f.get(i.C)
	switch i.Op {
	case code.Join:
		m.join(f, i.A, left, right)
	case code.TextEq:
		f.set(i.A, flag(m.read(left) == m.read(right)))
	case code.TextLt:
		f.set(i.A, flag(m.read(left) < m.read(right)))
	case code.TextLe:
		f.set(i.A, flag(m.read(left) <= m.read(right)))
	}
}

func (m *machine) join(f *frame, to, left, right int) {
	if m.length(left)+m.length(right) > api.MaxSlots {
		f.raise("text too long")
		return
	}
	f.set(to, m.write(m.read(left)+m.read(right)))
}

func (m *machine) textIndex(f *frame, i *code.Instr) {
	w, k := f.get(i.B), f.get(i.C)
	if k < 0 || k >= m.length(w) {
		f.raise(badIndex)
		return
	}
	f.set(i.A, m.byteAt(w, k))
}

func (m *machine) subText(f *frame, i *code.Instr) {
	t := m.read(f.get(i.B))
	if low, high, ok := f.bounds(i, len(t), len(t)); ok {
		f.set(i.A, m.write(t[low:high]))
	}
}
