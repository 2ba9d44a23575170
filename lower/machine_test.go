package lower_test

import (
	"fmt"

	"derrick/code"
)

// machine evaluates a program.
type machine struct {
	*world
	program code.Program
	globals []value
}

// runProgram runs a program with a schedule.
func runProgram(p code.Program, script []int, limit int) *world {
	m := &machine{world: newWorld(script, limit), program: p}
	for _, ref := range p.Globals {
		m.globals = append(m.globals, zeroOf(ref))
	}
	m.run(func(t *task) { m.invoke(t, nil, &function{number: p.Main}, nil) })
	return m.world
}

// invoke calls a function. The result of one that panics is never asked for, but where that is caught.
func (m *machine) invoke(t *task, by *frame, f *function, args []value) value {
	to := m.program.Funcs[f.number-1]
	if len(args) != to.Params || len(f.boxes) != to.Captures {
		panic(fmt.Sprintf("%s: %d arguments, %d boxes", to.Name, len(args), len(f.boxes)))
	}
	return m.call(t, by, nil, func(fr *frame) value {
		a := &activation{machine: m, frame: fr, of: to}
		for _, ref := range to.Refs {
			a.registers = append(a.registers, zeroOf(ref))
		}
		for r, v := range args {
			a.set(r, v)
		}
		for k, box := range f.boxes {
			var v value
			if box != nil {
				v = box
			}
			a.set(to.Params+k, v)
		}
		for a.at >= 0 {
			i := to.Code[a.at]
			a.at++
			m.step()
			a.do(i)
		}
		return a.answer
	})
}

// activation is a function under way.
type activation struct {
	*machine
	frame     *frame
	of        code.Func
	registers []value
	at        int // the next instruction; below 0: it is over
	answer    value
}

// set puts something into a register, which must be of its kind.
func (a *activation) set(r int, v value) {
	if _, isNumber := v.(int); isNumber == a.of.Refs[r] {
		panic(fmt.Sprintf("%s: %v in register %d", a.of.Name, v, r))
	}
	a.registers[r] = v
}

func (a *activation) num(r int) int { return a.registers[r].(int) }

func (a *activation) text(r int) string { return textOf(a.registers[r]) }

func (a *activation) list(registers []int) []value {
	var values []value
	for _, r := range registers {
		values = append(values, a.registers[r])
	}
	return values
}

func (a *activation) callee(r int) *function {
	f, _ := a.registers[r].(*function)
	must(f != nil, "call of nil function")
	return f
}

func (a *activation) do(i code.Instr) {
	done := a.doMove(i) || a.doOperation(i) || a.doThing(i) || a.doCall(i) || a.doChannel(i)
	if !done {
		panic(fmt.Sprintf("%s: %+v", a.of.Name, i))
	}
}

func (a *activation) doMove(i code.Instr) bool {
	switch i.Op {
	case code.Const:
		a.set(i.A, i.B)
	case code.Text:
		a.set(i.A, a.program.Texts[i.B])
	case code.Move:
		a.set(i.A, a.registers[i.B])
	case code.GetGlobal:
		a.set(i.A, a.globals[i.B])
	case code.SetGlobal:
		a.globals[i.A] = a.registers[i.B]
	case code.MakeBox:
		a.made.boxes++
		a.set(i.A, &cell{a.registers[i.B]})
	case code.GetBox:
		if box, _ := a.registers[i.B].(*cell); box != nil {
			a.set(i.A, box.value)
		} else {
			a.set(i.A, zeroOf(a.of.Refs[i.A]))
		}
	case code.SetBox:
		if box, _ := a.registers[i.A].(*cell); box != nil {
			box.value = a.registers[i.B]
		}
	case code.Jump:
		a.at = i.A
	case code.Unless:
		if a.num(i.B) == 0 {
			a.at = i.A
		}
	default:
		return false
	}
	return true
}

func (a *activation) doOperation(i code.Instr) bool {
	switch i.Op {
	case code.Neg:
		a.set(i.A, -a.num(i.B))
	case code.Not:
		a.set(i.A, 1-a.num(i.B))
	case code.Add:
		a.set(i.A, a.num(i.B)+a.num(i.C))
	case code.Sub:
		a.set(i.A, a.num(i.B)-a.num(i.C))
	case code.Mul:
		a.set(i.A, a.num(i.B)*a.num(i.C))
	case code.Div, code.Mod:
		a.set(i.A, divide(a.num(i.B), a.num(i.C), i.Op == code.Mod))
	case code.Lt:
		a.set(i.A, numberOf(a.num(i.B) < a.num(i.C)))
	case code.Le:
		a.set(i.A, numberOf(a.num(i.B) <= a.num(i.C)))
	case code.Eq:
		a.set(i.A, numberOf(a.registers[i.B] == a.registers[i.C]))
	case code.Ne:
		a.set(i.A, numberOf(a.registers[i.B] != a.registers[i.C]))
	case code.Join:
		a.set(i.A, join(a.registers[i.B], a.registers[i.C]))
	case code.TextEq:
		a.set(i.A, numberOf(a.text(i.B) == a.text(i.C)))
	case code.TextLt:
		a.set(i.A, numberOf(a.text(i.B) < a.text(i.C)))
	case code.TextLe:
		a.set(i.A, numberOf(a.text(i.B) <= a.text(i.C)))
	default:
		return false
	}
	return true
}

// bounds are those of a slicing, of which high is the second where it isn't said.
func (a *activation) bounds(i code.Instr, high int) (int, int) {
	low := 0
	if i.C != -1 {
		low = a.num(i.C)
	}
	if i.D != -1 {
		high = a.num(i.D)
	}
	return low, high
}

func (a *activation) doThing(i code.Instr) bool {
	switch i.Op {
	case code.NewObject:
		a.set(i.A, a.newObject(a.program.Structs[i.B]))
	case code.GetField:
		a.set(i.A, fieldsOf(a.registers[i.B])[i.C])
	case code.SetField:
		fieldsOf(a.registers[i.A])[i.B] = a.registers[i.C]
	case code.List:
		a.set(i.A, a.newSlice(a.list(i.List)))
	case code.MakeSlice:
		a.set(i.A, a.makeSlice(a.num(i.B), zeroOf(i.C == 1)))
	case code.Index:
		a.set(i.A, *itemOf(a.registers[i.B], a.num(i.C)))
	case code.SetIndex:
		*itemOf(a.registers[i.A], a.num(i.B)) = a.registers[i.C]
	case code.TextIndex:
		a.set(i.A, byteOf(a.text(i.B), a.num(i.C)))
	case code.Slice:
		length, _ := sizes(a.registers[i.B])
		low, high := a.bounds(i, length)
		a.set(i.A, cutSlice(a.registers[i.B], low, high))
	case code.SubText:
		low, high := a.bounds(i, len(a.text(i.B)))
		a.set(i.A, cutText(a.text(i.B), low, high))
	case code.Append:
		a.set(i.A, a.appended(a.registers[i.B], a.list(i.List), zeroOf(i.C == 1)))
	case code.TextLen:
		a.set(i.A, len(a.text(i.B)))
	case code.SliceLen:
		length, _ := sizes(a.registers[i.B])
		a.set(i.A, length)
	case code.SliceCap:
		_, capacity := sizes(a.registers[i.B])
		a.set(i.A, capacity)
	case code.Print:
		a.put(printed(a.registers[i.A], i.B))
	default:
		return false
	}
	return true
}

func (a *activation) doCall(i code.Instr) bool {
	switch i.Op {
	case code.Direct:
		a.set(i.A, &function{number: i.B})
	case code.Closure:
		a.made.closures++
		f := &function{number: i.B}
		for _, v := range a.list(i.List) {
			box, _ := v.(*cell)
			f.boxes = append(f.boxes, box)
		}
		a.set(i.A, f)
	case code.Call:
		f, args := a.callee(i.B), a.list(i.List)
		answer := a.invoke(a.frame.task, nil, f, args)
		if i.A == -1 {
			break
		}
		if answer == nil {
			answer = zeroOf(a.of.Refs[i.A])
		}
		a.set(i.A, answer)
	case code.Go:
		f, args := a.callee(i.B), a.list(i.List)
		a.launch(func(t *task) { a.invoke(t, nil, f, args) })
	case code.Defer:
		f, args := a.callee(i.B), a.list(i.List)
		a.frame.deferred = append(a.frame.deferred, func() { a.invoke(a.frame.task, a.frame, f, args) })
	case code.Return:
		a.at = -1
		if i.A != -1 {
			a.answer = a.registers[i.A]
		}
	case code.Panic:
		panic(crash{a.text(i.A)})
	case code.Recover:
		a.set(i.A, a.frame.recovered())
	case code.Yield:
		a.safepoint(a.frame.task)
	default:
		return false
	}
	return true
}

func (a *activation) doChannel(i code.Instr) bool {
	switch i.Op {
	case code.MakeChan:
		a.set(i.A, a.makeChan(a.num(i.B), zeroOf(i.C == 1)))
	case code.ChanLen, code.ChanCap:
		n := 0
		if c := chanOf(a.registers[i.B]); c != nil {
			n = len(c.list)
			if i.Op == code.ChanCap {
				n = c.places
			}
		}
		a.set(i.A, n)
	case code.Send:
		a.communicate(a.frame.task, []comm{{at: chanOf(a.registers[i.A]), send: true, value: a.registers[i.B]}}, false)
	case code.Recv:
		_, v := a.communicate(a.frame.task, []comm{{at: chanOf(a.registers[i.B])}}, false)
		a.set(i.A, v)
	case code.Close:
		a.closeChan(a.registers[i.A])
	case code.Select:
		a.doSelect(i)
	default:
		return false
	}
	return true
}

func (a *activation) doSelect(i code.Instr) {
	var comms []comm
	for k := 0; k < len(i.List); k += 4 {
		c := comm{at: chanOf(a.registers[i.List[k+1]])}
		if i.List[k] == 2 {
			c.send, c.value = true, a.registers[i.List[k+2]]
		}
		comms = append(comms, c)
	}
	chosen, v := a.communicate(a.frame.task, comms, i.B != -1)
	if chosen < 0 {
		a.at = i.B
		return
	}
	if !comms[chosen].send {
		a.set(i.List[4*chosen+2], v)
	}
	a.at = i.List[4*chosen+3]
}
