package vm

import (
	"derrick/api"
	"derrick/code"
	"derrick/sched"
	"derrick/space"
	"derrick/walk"
)

// machine is a run: the program, the space, all goroutines, of which one runs, and what came of it so far.
type machine struct {
	program code.Program
	space   *space.Space
	globals []int
	queue   *sched.Queue
	tasks   []*task // by their numbers, which the queue knows; nil where one is over
	alive   int     // how many aren't
	now     *task
	lines   map[door]*line // those in which somebody waits
	left    int            // the fuel
	points  int            // the safepoints that were reached
	force   []int          // where collections are forced, but for those that are passed
	output  []byte
	made    walk.Made
	outcome api.Outcome
}

func newMachine(p code.Program, c api.Config, s *space.Space) *machine {
	m := &machine{program: p, space: s, globals: make([]int, len(p.Globals)), queue: sched.New(c.Script), lines: map[door]*line{}, left: c.Fuel, force: c.Force}
	s.Roots = m.tellRoots
	return m
}

// run takes steps until the run ends or the fuel does. A lack of room ends it wherever it is found, by a panic; nothing else panics in it.
func (m *machine) run() {
	defer func() {
		if recover() == errNoRoom {
			m.outcome = noMemory()
		}
	}()
	if m.left <= 0 {
		return
	}
	main := m.call(m.direct(m.program.Main), nil)
	if main.of == nil {
		m.fatal("panic: " + nilCall)
		return
	}
	m.now = m.start(main)
	for m.left > 0 && m.outcome.State == api.Running {
		m.step()
	}
}

// step does one instruction of the function that runs, or a part of its end.
func (m *machine) step() {
	m.left--
	f := m.now.top()
	if f.isOver || f.at < 0 || f.at >= len(f.of.Code) {
		m.finish(f)
		return
	}
	i := &f.of.Code[f.at]
	f.at++
	m.do(f, i)
}

// pay takes fuel for so many words that are made or gone through at once, so that the fuel bounds time and room.
// It hangs on nothing that a collection changes. It is little enough: the greatest array or text takes less than the
// fuel that three of the document's steps are due.
func (m *machine) pay(words int) {
	m.left -= words / 8
}

// fatal ends the run.
func (m *machine) fatal(why string) {
	m.outcome = api.Outcome{State: api.Fatal, Code: 2, Why: why}
}

// do does an instruction. They are numbered by what they work on; one that isn't there does nothing.
func (m *machine) do(f *frame, i *code.Instr) {
	switch {
	case i.Op <= code.SetBox:
		m.move(f, i)
	case i.Op <= code.Ne:
		calculate(f, i)
	case i.Op <= code.TextLe:
		m.textOperation(f, i)
	case i.Op <= code.Unless:
		jump(f, i)
	case i.Op <= code.SetField:
		m.objectOperation(f, i)
	case i.Op <= code.Append:
		m.listOperation(f, i)
	case i.Op <= code.ChanCap:
		f.set(i.A, m.size(i.Op, f.get(i.B)))
	case i.Op <= code.Return:
		m.callOperation(f, i)
	case i.Op <= code.Select:
		m.channelOperation(f, i)
	default:
		m.otherOperation(f, i)
	}
}

// safepoint collects, if that is forced here, and lets another goroutine run, if the schedule says so.
func (m *machine) safepoint() {
	m.points++
	if m.isForced() {
		m.space.Collect()
	}
	m.now = m.tasks[m.queue.Yield(m.now.number)]
}

// isForced tells whether a collection is forced at the safepoint that was reached last. A number that doesn't rise is
// never that of a safepoint to come: it is passed over like those that are done.
func (m *machine) isForced() bool {
	for len(m.force) > 0 && m.force[0] < m.points {
		m.force = m.force[1:]
	}
	return len(m.force) > 0 && m.force[0] == m.points
}
