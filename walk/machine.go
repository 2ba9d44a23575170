package walk

import (
	"derrick/api"
	"derrick/code"
	"derrick/sched"
)

// machine is a run: the program, all goroutines, of which one runs, and what came of it so far.
type machine struct {
	program code.Program
	globals []value
	queue   *sched.Queue
	tasks   []*task // by their numbers, which the queue knows; nil where one is over
	alive   int     // how many aren't
	now     *task
	left    int // the fuel
	output  []byte
	made    Made
	outcome api.Outcome
}

func newMachine(p code.Program, script []int, fuel int) *machine {
	return &machine{program: p, globals: make([]value, len(p.Globals)), queue: sched.New(script), left: fuel}
}

// run takes steps until the run ends or the fuel does.
func (m *machine) run() {
	if m.left <= 0 {
		return
	}
	main := m.function(m.program.Main)
	if main == nil {
		m.fatal("panic: " + nilCall)
		return
	}
	m.now = m.start(call{function: main})
	for m.left > 0 && m.outcome.State == api.Running {
		m.step()
	}
}

// step does one instruction of the function that runs, or a part of its end.
func (m *machine) step() {
	m.left--
	f := m.now.top()
	if f.isOver || f.at < 0 || f.at >= len(f.code) {
		m.finish(f)
		return
	}
	i := &f.code[f.at]
	f.at++
	m.do(f, i)
}

// pay takes fuel for so many words that are made or gone through at once, so that the fuel bounds time and room.
// It is little enough: the greatest array or text takes less than the fuel that three of the document's steps are due.
func (m *machine) pay(words int) {
	m.left -= words / 8
}

// fatal ends the run.
func (m *machine) fatal(why string) {
	m.outcome = api.Outcome{State: api.Fatal, Code: 2, Why: why}
}

// do does an instruction. They are numbered by what they work on; one that isn't there does nothing.
func (m *machine) do(f *frame, i *code.Instr) {
	switch {
	case i.Op <= code.SetBox:
		m.move(f, i)
	case i.Op <= code.Ne:
		calculate(f, i)
	case i.Op <= code.TextLe:
		m.textOperation(f, i)
	case i.Op <= code.Unless:
		jump(f, i)
	case i.Op <= code.SetField:
		m.objectOperation(f, i)
	case i.Op <= code.Append:
		m.listOperation(f, i)
	case i.Op <= code.ChanCap:
		f.set(i.A, numberValue(size(i.Op, f.get(i.B))))
	case i.Op <= code.Return:
		m.callOperation(f, i)
	case i.Op <= code.Select:
		m.channelOperation(f, i)
	default:
		m.otherOperation(f, i)
	}
}
