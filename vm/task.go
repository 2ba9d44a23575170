package vm

import (
	"slices"

	"derrick/api"
	"derrick/code"
)

const nilCall = "call of nil function"

// nowhere is no register: what is put there is dropped, and what is there is zero.
const nowhere = -1

// task is a goroutine.
type task struct {
	number int      // main's is 0: it is the first, and the run ends with it
	frames []*frame // the functions under way, the innermost last
	waits  []*comm  // what it waits for: the first of them that is served ends it
}

// frame is a function under way.
type frame struct {
	of         *code.Func
	at         int // the next instruction
	registers  []int
	result     int  // the register of the caller for what it answers
	isDeferred bool // it was called as a deferred call of the function ahead of it
	deferred   []call
	isOver     bool // it returned or panicked: what it deferred is left
	answer     int  // the register that has what it answers
	panicking  bool
	message    string
}

// call is a call that isn't made yet.
type call struct {
	of       *code.Func
	function int // the word: of a closure it leads to the boxes
	args     []int
}

func (t *task) top() *frame {
	return t.frames[len(t.frames)-1]
}

func (f *frame) get(r int) int {
	return item(f.registers, r)
}

func (f *frame) set(r, w int) {
	put(f.registers, r, w)
}

// item is the item k of a list; zero, if the list has none there.
func item[T any](list []T, k int) T {
	if k >= 0 && k < len(list) {
		return list[k]
	}
	var none T
	return none
}

// put sets the item k of a list, if the list has one there.
func put(list []int, k, w int) {
	if k >= 0 && k < len(list) {
		list[k] = w
	}
}

// list are the words of registers.
func (f *frame) list(registers []int) []int {
	words := make([]int, len(registers))
	for k, r := range registers {
		words[k] = f.get(r)
	}
	return words
}

// raise makes a function panicking. It answers the zero value then, even if it has returned another one: that recover ends the panicking doesn't bring it back.
func (f *frame) raise(message string) {
	f.isOver, f.answer = true, nowhere
	f.panicking, f.message = true, message
}

// start makes a goroutine. It takes the first number that is free: those of goroutines that are over are used again.
func (m *machine) start(c call) *task {
	number := slices.Index(m.tasks, nil)
	if number < 0 {
		number = len(m.tasks)
		m.tasks = append(m.tasks, nil)
	}
	t := &task{number: number, frames: []*frame{m.frame(c)}}
	m.tasks[number] = t
	m.alive++
	return t
}

// frame is a function that is about to begin.
func (m *machine) frame(c call) *frame {
	f := &frame{of: c.of, registers: make([]int, len(c.of.Refs)), answer: nowhere}
	m.pay(len(f.registers))
	for k, w := range c.args {
		f.set(k, w)
	}
	for k, w := range m.boxes(c.function) {
		f.set(c.of.Params+k, w)
	}
	return f
}

func (m *machine) callOperation(f *frame, i *code.Instr) {
	if i.Op == code.Return {
		f.isOver, f.answer = true, i.A
		return
	}
	c := m.call(f.get(i.B), f.list(i.List))
	if c.of == nil {
		f.raise(nilCall)
		return
	}
	switch i.Op {
	case code.Call:
		m.enter(c, i.A, false)
	case code.Go:
		m.launch(c)
	case code.Defer:
		m.pay(deferredWords)
		f.deferred = append(f.deferred, c)
	}
}

// deferredWords is what a call is paid for that is deferred. It takes no room in the space: nothing but the fuel bounds how many of them wait.
const deferredWords = 64

// call is the call of a word; of nil its function is nil.
func (m *machine) call(function int, args []int) call {
	m.pay(len(args))
	return call{of: m.function(function), function: function, args: args}
}

// enter makes a call in the goroutine that runs.
func (m *machine) enter(c call, result int, isDeferred bool) {
	if len(m.now.frames) >= api.MaxDepth {
		m.fatal("fatal: stack overflow")
		return
	}
	f := m.frame(c)
	f.result, f.isDeferred = result, isDeferred
	m.now.frames = append(m.now.frames, f)
}

func (m *machine) launch(c call) {
	if m.alive >= api.MaxTasks {
		m.fatal("fatal: too many goroutines")
		return
	}
	m.queue.Push(m.start(c).number)
}

// finish goes on with the end of a function: a call that it deferred, the last one first; without one it is over.
func (m *machine) finish(f *frame) {
	last := len(f.deferred) - 1
	if last < 0 {
		m.leave(f)
		return
	}
	c := f.deferred[last]
	f.deferred = f.deferred[:last]
	m.enter(c, nowhere, true)
}

// leave goes on with the caller of a function that is over, or ends its goroutine.
func (m *machine) leave(f *frame) {
	t := m.now
	t.frames = t.frames[:len(t.frames)-1]
	if len(t.frames) == 0 {
		m.end(t, f)
		return
	}
	if f.panicking {
		t.top().raise(f.message)
		return
	}
	t.top().set(f.result, f.get(f.answer))
}

// end ends a goroutine whose first function is over.
func (m *machine) end(t *task, first *frame) {
	switch {
	case first.panicking:
		m.fatal("panic: " + first.message)
	case t.number == 0:
		m.outcome = api.Outcome{State: api.Exited}
	default:
		m.tasks[t.number] = nil
		m.alive--
		m.next()
	}
}

// next lets another goroutine run, when the one that ran can't go on.
func (m *machine) next() {
	number, ok := m.queue.Next()
	if !ok {
		m.fatal("fatal: all goroutines are asleep")
		return
	}
	m.now = m.tasks[number]
}

// recovered is what recover answers to the innermost function.
func (t *task) recovered() string {
	last := len(t.frames) - 1
	if !t.frames[last].isDeferred || !t.frames[last-1].panicking {
		return ""
	}
	t.frames[last-1].panicking = false
	return t.frames[last-1].message
}
