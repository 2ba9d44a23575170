package walk

import (
	"strconv"

	"derrick/api"
	"derrick/code"
)

// move does what brings a value from one place to another, or makes one of nothing else.
func (m *machine) move(f *frame, i *code.Instr) {
	switch i.Op {
	case code.Const:
		f.set(i.A, numberValue(i.B))
	case code.Text:
		f.set(i.A, textValue(item(m.program.Texts, i.B)))
	case code.Direct, code.Closure:
		f.set(i.A, m.functionValue(f, i))
	case code.Move:
		f.set(i.A, f.get(i.B))
	case code.GetGlobal:
		f.set(i.A, item(m.globals, i.B))
	case code.SetGlobal:
		put(m.globals, i.A, f.get(i.B))
	case code.MakeBox:
		m.made.Boxes++
		f.set(i.A, value{thing: &box{value: f.get(i.B)}})
	case code.GetBox:
		f.set(i.A, unboxed(f.get(i.B)))
	case code.SetBox:
		if b := f.get(i.A).box(); b != nil {
			b.value = f.get(i.B)
		}
	}
}

// unboxed is what is in a box. A variable that a for's last part declares has none in the first round: it is zero there.
func unboxed(v value) value {
	if b := v.box(); b != nil {
		return b.value
	}
	return value{}
}

func (m *machine) functionValue(f *frame, i *code.Instr) value {
	made := m.function(i.B)
	if made == nil {
		return value{}
	}
	if i.Op == code.Closure {
		m.made.Closures++
		m.pay(len(i.List))
		made.boxes = f.list(i.List)
	}
	return value{thing: made}
}

// calculate does what works on numbers, and holds things against each other.
func calculate(f *frame, i *code.Instr) {
	left, right := f.get(i.B), f.get(i.C)
	x, y := left.number, right.number
	switch i.Op {
	case code.Neg:
		f.set(i.A, numberValue(-x))
	case code.Not:
		f.set(i.A, boolValue(x == 0))
	case code.Add:
		f.set(i.A, numberValue(x+y))
	case code.Sub:
		f.set(i.A, numberValue(x-y))
	case code.Mul:
		f.set(i.A, numberValue(x*y))
	case code.Div, code.Mod:
		divide(f, i, x, y)
	case code.Lt:
		f.set(i.A, boolValue(x < y))
	case code.Le:
		f.set(i.A, boolValue(x <= y))
	case code.Eq:
		f.set(i.A, boolValue(left == right))
	case code.Ne:
		f.set(i.A, boolValue(left != right))
	}
}

func divide(f *frame, i *code.Instr, x, y int) {
	switch {
	case y == 0:
		f.raise("divide by zero")
	case i.Op == code.Div:
		f.set(i.A, numberValue(x/y))
	default:
		f.set(i.A, numberValue(x%y))
	}
}

func (m *machine) textOperation(f *frame, i *code.Instr) {
	left, right := f.get(i.B).text(), f.get(i.C).text()
	switch i.Op {
	case code.Join:
		m.join(f, i.A, left, right)
	case code.TextEq:
		f.set(i.A, boolValue(left == right))
	case code.TextLt:
		f.set(i.A, boolValue(left < right))
	case code.TextLe:
		f.set(i.A, boolValue(left <= right))
	}
}

func (m *machine) join(f *frame, to int, left, right string) {
	if len(left)+len(right) > api.MaxSlots {
		f.raise("text too long")
		return
	}
	m.pay((len(left) + len(right)) / 8)
	f.set(to, textValue(left+right))
}

func jump(f *frame, i *code.Instr) {
	if i.Op == code.Jump || f.get(i.B).number == 0 {
		f.at = i.A
	}
}

func (m *machine) objectOperation(f *frame, i *code.Instr) {
	switch i.Op {
	case code.NewObject:
		m.made.Objects++
		fields := item(m.program.Structs, i.B)
		m.pay(len(fields))
		f.set(i.A, value{thing: &object{fields: make([]value, len(fields))}})
	case code.GetField:
		if o := f.fieldsOf(i.B); o != nil {
			f.set(i.A, item(o.fields, i.C))
		}
	case code.SetField:
		if o := f.fieldsOf(i.A); o != nil {
			put(o.fields, i.B, f.get(i.C))
		}
	}
}

// fieldsOf is the object whose fields are asked for; of nil the function panics.
func (f *frame) fieldsOf(r int) *object {
	o := f.get(r).object()
	if o == nil {
		f.raise("nil dereference")
	}
	return o
}

func (m *machine) otherOperation(f *frame, i *code.Instr) {
	switch i.Op {
	case code.Print:
		m.putOut(printed(f.get(i.A), i.B))
	case code.Panic:
		f.raise(f.get(i.A).text())
	case code.Recover:
		f.set(i.A, textValue(m.now.recovered()))
	case code.Yield:
		m.safepoint()
	}
}

// printed is how a value is put out, as a number says: 1 true or false, 2 a text, else a number.
func printed(v value, as int) string {
	switch as {
	case 1:
		return strconv.FormatBool(v.number != 0)
	case 2:
		return v.text()
	}
	return strconv.Itoa(v.number)
}

func (m *machine) putOut(text string) {
	if len(m.output)+len(text) > api.MaxOutput {
		m.fatal("fatal: too much output")
		return
	}
	m.pay(len(text) / 8)
	m.output = append(m.output, text...)
}
