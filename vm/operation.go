package vm

import (
	"strconv"

	"derrick/api"
	"derrick/code"
	"derrick/sweep"
	"derrick/text"
)

// move does what brings a word from one place to another, or makes one of nothing else.
func (m *machine) move(f *frame, i *code.Instr) {
	switch i.Op {
	case code.Const:
		f.set(i.A, i.B)
	case code.Text:
		f.set(i.A, text.Constant(i.B))
	case code.Direct:
		f.set(i.A, m.direct(i.B))
	case code.Closure:
		f.set(i.A, m.closure(i.B, f.list(i.List)))
	case code.Move:
		f.set(i.A, f.get(i.B))
	case code.GetGlobal:
		f.set(i.A, item(m.globals, i.B))
	case code.SetGlobal:
		put(m.globals, i.A, f.get(i.B))
	case code.MakeBox:
		f.set(i.A, m.box(f.get(i.B), f.of.Reference(i.B)))
	case code.GetBox: // a variable that a for's last part declares has no box in the first round: it is zero there
		f.set(i.A, m.space.Get(f.get(i.B), 0))
	case code.SetBox:
		m.space.Set(f.get(i.A), 0, f.get(i.B))
	}
}

// flag is a bool's word.
func flag(holds bool) int {
	if holds {
		return 1
	}
	return 0
}

// calculate does what works on numbers, and holds words against each other.
func calculate(f *frame, i *code.Instr) {
	x, y := f.get(i.B), f.get(i.C)
	switch i.Op {
	case code.Neg:
		f.set(i.A, -x)
	case code.Not:
		f.set(i.A, flag(x == 0))
	case code.Add:
		f.set(i.A, x+y)
	case code.Sub:
		f.set(i.A, x-y)
	case code.Mul:
		f.set(i.A, x*y)
	case code.Div, code.Mod:
		divide(f, i, x, y)
	case code.Lt:
		f.set(i.A, flag(x < y))
	case code.Le:
		f.set(i.A, flag(x <= y))
	case code.Eq:
		f.set(i.A, flag(x == y))
	case code.Ne:
		f.set(i.A, flag(x != y))
	}
}

func divide(f *frame, i *code.Instr, x, y int) {
	switch {
	case y == 0:
		f.raise("divide by zero")
	case i.Op == code.Div:
		f.set(i.A, x/y)
	default:
		f.set(i.A, x%y)
	}
}

func jump(f *frame, i *code.Instr) {
	if i.Op == code.Jump || f.get(i.B) == 0 {
		f.at = i.A
	}
}

func (m *machine) objectOperation(f *frame, i *code.Instr) {
	switch i.Op {
	case code.NewObject:
		f.set(i.A, m.object(item(m.program.Structs, i.B)))
	case code.GetField:
		if w := f.objectIn(i.B); w != 0 {
			f.set(i.A, m.space.Get(w, i.C))
		}
	case code.SetField:
		if w := f.objectIn(i.A); w != 0 {
			m.space.Set(w, i.B, f.get(i.C))
		}
	}
}

// object makes an object, with a bit of the mask for each field that is a reference.
func (m *machine) object(fields []bool) int {
	mask := 0
	for k, isReference := range fields {
		mask |= flag(isReference) << k
	}
	w := must(m.space.Make(sweep.Masked, len(fields), mask))
	m.made.Objects++
	m.pay(len(fields))
	return w
}

// objectIn is the object whose fields are asked for; of nil the function panics.
func (f *frame) objectIn(r int) int {
	w := f.get(r)
	if w == 0 {
		f.raise("nil dereference")
	}
	return w
}

func (m *machine) otherOperation(f *frame, i *code.Instr) {
	switch i.Op {
	case code.Print:
		m.putOut(m.printed(f.get(i.A), i.B))
	case code.Panic:
		f.raise(m.read(f.get(i.A)))
	case code.Recover:
		f.set(i.A, m.write(m.now.recovered()))
	case code.Yield:
		m.safepoint()
	}
}

// printed is how a word is put out, as a number says: 1 true or false, 2 a text, else a number.
func (m *machine) printed(w, as int) string {
	switch as {
	case 1:
		return strconv.FormatBool(w != 0)
	case 2:
		return m.read(w)
	}
	return strconv.Itoa(w)
}

func (m *machine) putOut(out string) {
	if len(m.output)+len(out) > api.MaxOutput {
		m.fatal("fatal: too much output")
		return
	}
	m.output = append(m.output, out...)
}
