package walk

import (
	"slices"

	"derrick/api"
	"derrick/code"
)

const nilCall = "call of nil function"

// task is a goroutine.
type task struct {
	number int      // main's is 0: it is the first, and the run ends with it
	frames []*frame // the functions under way, the innermost last
	waits  []*comm  // what it waits for: the first of them that is served ends it
}

// frame is a function under way.
type frame struct {
	code       []code.Instr
	at         int // the next instruction
	registers  []value
	result     int  // the register of the caller for what it answers
	isDeferred bool // it was called as a deferred call of the function ahead of it
	deferred   []call
	isOver     bool // it returned or panicked: what it deferred is left
	answer     value
	panicking  bool
	message    string
}

// call is a call that isn't made yet.
type call struct {
	function *function
	args     []value
}

func (t *task) top() *frame {
	return t.frames[len(t.frames)-1]
}

func (f *frame) get(r int) value {
	return item(f.registers, r)
}

func (f *frame) set(r int, v value) {
	put(f.registers, r, v)
}

// list are the values of registers.
func (f *frame) list(registers []int) []value {
	values := make([]value, len(registers))
	for k, r := range registers {
		values[k] = f.get(r)
	}
	return values
}

// raise makes a function panicking. It answers the zero value then, even if it has returned another one: that recover ends the panicking doesn't bring it back.
func (f *frame) raise(message string) {
	f.isOver, f.answer = true, value{}
	f.panicking, f.message = true, message
}

// function is the function of a number; nil, if there is none.
func (m *machine) function(number int) *function {
	if number < 1 || number > len(m.program.Funcs) {
		return nil
	}
	return &function{of: &m.program.Funcs[number-1]}
}

// start makes a goroutine. It takes the first number that is free: those of goroutines that are over are used again.
func (m *machine) start(c call) *task {
	number := slices.Index(m.tasks, nil)
	if number < 0 {
		number = len(m.tasks)
		m.tasks = append(m.tasks, nil)
	}
	t := &task{number: number, frames: []*frame{m.frame(c)}}
	m.tasks[number] = t
	m.alive++
	return t
}

// frame is a function that is about to begin.
func (m *machine) frame(c call) *frame {
	of := c.function.of
	f := &frame{code: of.Code, registers: make([]value, len(of.Refs))}
	m.pay(len(f.registers))
	for k, v := range c.args {
		f.set(k, v)
	}
	for k, v := range c.function.boxes {
		f.set(of.Params+k, v)
	}
	return f
}

func (m *machine) callOperation(f *frame, i *code.Instr) {
	if i.Op == code.Return {
		f.isOver, f.answer = true, f.get(i.A)
		return
	}
	c := call{function: f.get(i.B).function(), args: f.list(i.List)}
	m.pay(len(c.args))
	if c.function == nil {
		f.raise(nilCall)
		return
	}
	switch i.Op {
	case code.Call:
		m.enter(c, i.A, false)
	case code.Go:
		m.launch(c)
	case code.Defer:
		f.deferred = append(f.deferred, c)
	}
}

// enter makes a call in the goroutine that runs.
func (m *machine) enter(c call, result int, isDeferred bool) {
	if len(m.now.frames) >= api.MaxDepth {
		m.fatal("fatal: stack overflow")
		return
	}
	f := m.frame(c)
	f.result, f.isDeferred = result, isDeferred
	m.now.frames = append(m.now.frames, f)
}

func (m *machine) launch(c call) {
	if m.alive >= api.MaxTasks {
		m.fatal("fatal: too many goroutines")
		return
	}
	m.queue.Push(m.start(c).number)
}

// finish goes on with the end of a function: a call that it deferred, the last one first; without one it is over.
func (m *machine) finish(f *frame) {
	last := len(f.deferred) - 1
	if last < 0 {
		m.leave(f)
		return
	}
	c := f.deferred[last]
	f.deferred = f.deferred[:last]
	m.enter(c, nowhere, true)
}

// nowhere is no register: what is put there is dropped.
const nowhere = -1

// leave goes on with the caller of a function that is over, or ends its goroutine.
func (m *machine) leave(f *frame) {
	t := m.now
	t.frames = t.frames[:len(t.frames)-1]
	if len(t.frames) == 0 {
		m.end(t, f)
		return
	}
	if f.panicking {
		t.top().raise(f.message)
		return
	}
	t.top().set(f.result, f.answer)
}

// end ends a goroutine whose first function is over.
func (m *machine) end(t *task, first *frame) {
	switch {
	case first.panicking:
		m.fatal("panic: " + first.message)
	case t.number == 0:
		m.outcome = api.Outcome{State: api.Exited}
	default:
		m.tasks[t.number] = nil
		m.alive--
		m.next()
	}
}

// next lets another goroutine run, when the one that ran can't go on.
func (m *machine) next() {
	number, ok := m.queue.Next()
	if !ok {
		m.fatal("fatal: all goroutines are asleep")
		return
	}
	m.now = m.tasks[number]
}

// safepoint lets another goroutine run, if the schedule says so.
func (m *machine) safepoint() {
	m.now = m.tasks[m.queue.Yield(m.now.number)]
}

// recovered is what recover answers to the innermost function.
func (t *task) recovered() string {
	last := len(t.frames) - 1
	if !t.frames[last].isDeferred || !t.frames[last-1].panicking {
		return ""
	}
	t.frames[last-1].panicking = false
	return t.frames[last-1].message
}
