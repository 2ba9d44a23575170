package vm

// door is where those wait who send to a channel, or those who receive from it.
type door struct {
	channel int
	isSend  bool
}

func (d door) otherSide() door {
	return door{d.channel, !d.isSend}
}

// comm is a send or a receive that is about to be made, or waits in the line at its door.
type comm struct {
	door
	task          *task
	register      int   // which has what is sent, or to which what is received goes
	next          int   // the instruction at which its function goes on
	ahead, behind *comm // its neighbours in the line
}

// line is who waits at a door, in order.
type line struct {
	first, last *comm
}

// first is who waits at a door first; nil: nobody does.
func (m *machine) first(d door) *comm {
	if l := m.lines[d]; l != nil {
		return l.first
	}
	return nil
}

// lineUp puts a comm at the end of its line.
func (m *machine) lineUp(c *comm) {
	l := m.lines[c.door]
	if l == nil {
		m.lines[c.door] = &line{first: c, last: c}
		return
	}
	c.ahead, l.last.behind = l.last, c
	l.last = c
}

// lineOff takes a comm out of its line. One in which nobody waits any more is no line: its channel may be collected, and another one come to stand there.
func (m *machine) lineOff(c *comm) {
	l := m.lines[c.door]
	if l.first == c && l.last == c {
		delete(m.lines, c.door)
		return
	}
	if c.ahead == nil {
		l.first = c.behind
	} else {
		c.ahead.behind = c.behind
	}
	if c.behind == nil {
		l.last = c.ahead
	} else {
		c.behind.ahead = c.ahead
	}
}

// sent is what a comm sends: it stands in its register until the comm is made.
func (c *comm) sent() int {
	return c.task.top().get(c.register)
}

// goOn lets the function of a comm go on behind it, with what it received.
func (c *comm) goOn(received int) {
	f := c.task.top()
	f.at = c.next
	if !c.isSend {
		f.set(c.register, received)
	}
}
