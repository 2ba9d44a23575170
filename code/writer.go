package code

// writer makes the bytes of a program. A list has its length ahead of its items and a number tells which byte is its last, so a reader needs no other marks.
type writer struct {
	bytes []byte
}

func (w *writer) program(p Program) {
	writeList(w, p.Texts, w.text)
	writeList(w, p.Globals, w.flag)
	writeList(w, p.Structs, w.flags)
	writeList(w, p.Funcs, w.function)
	w.number(p.Main)
}

func (w *writer) function(f Func) {
	w.text(f.Name)
	w.flags(f.Refs)
	w.number(f.Params)
	w.number(f.Captures)
	w.flag(f.Result)
	writeList(w, f.Code, w.instr)
}

func (w *writer) instr(i Instr) {
	w.number(i.Op)
	w.number(i.A)
	w.number(i.B)
	w.number(i.C)
	w.number(i.D)
	writeList(w, i.List, w.number)
}

func (w *writer) flags(list []bool) {
	writeList(w, list, w.flag)
}

func writeList[T any](w *writer, items []T, write func(T)) {
	w.size(uint64(len(items)))
	for _, x := range items {
		write(x)
	}
}

func (w *writer) text(s string) {
	w.size(uint64(len(s)))
	w.bytes = append(w.bytes, s...)
}

func (w *writer) flag(b bool) {
	if b {
		w.octet(1)
	} else {
		w.octet(0)
	}
}

// number puts the sign into the lowest bit, so that numbers a little below 0 take as few bytes as those above.
func (w *writer) number(n int) {
	w.size(uint64(n)<<1 ^ uint64(n>>63))
}

// size writes seven bits a byte, the lowest first; the eighth bit tells that more follow.
func (w *writer) size(n uint64) {
	for ; n >= more; n >>= 7 {
		w.octet(byte(n) | more)
	}
	w.octet(byte(n))
}

func (w *writer) octet(b byte) {
	w.bytes = append(w.bytes, b)
}
