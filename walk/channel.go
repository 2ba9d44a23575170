package walk

import "derrick/code"

const sendOnClosed = "send on closed channel"

type channel struct {
	places    int
	list      []value
	isClosed  bool
	receivers line // those who wait to receive
	senders   line
}

// comm is a send or a receive that is about to be made, or waits in a line of its channel.
type comm struct {
	task          *task
	channel       *channel // nil: it waits forever, in no line
	isSend        bool
	value         value // what is sent
	register      int   // where what is received goes
	next          int   // the instruction at which its function goes on
	ahead, behind *comm // its neighbours in the line
}

// line is who waits, in order.
type line struct {
	first, last *comm
}

func (l *line) push(c *comm) {
	c.ahead = l.last
	if c.ahead == nil {
		l.first = c
	} else {
		c.ahead.behind = c
	}
	l.last = c
}

func (l *line) remove(c *comm) {
	if c.ahead == nil {
		l.first = c.behind
	} else {
		c.ahead.behind = c.behind
	}
	if c.behind == nil {
		l.last = c.ahead
	} else {
		c.behind.ahead = c.ahead
	}
}

// line is the line in which a comm waits.
func (c *comm) line() *line {
	if c.isSend {
		return &c.channel.senders
	}
	return &c.channel.receivers
}

func (m *machine) channelOperation(f *frame, i *code.Instr) {
	switch i.Op {
	case code.Send:
		m.communicate(f, []*comm{m.send(f, i.A, i.B, f.at)}, nowhere)
	case code.Recv:
		m.communicate(f, []*comm{m.receive(f, i.B, i.A, f.at)}, nowhere)
	case code.Close:
		m.closeChannel(f, f.get(i.A).channel())
	case code.Select:
		m.communicate(f, m.comms(f, i.List), i.B)
	}
}

func (m *machine) send(f *frame, to, what, next int) *comm {
	return &comm{task: m.now, channel: f.get(to).channel(), isSend: true, value: f.get(what), next: next}
}

func (m *machine) receive(f *frame, from, register, next int) *comm {
	return &comm{task: m.now, channel: f.get(from).channel(), register: register, next: next}
}

// comms are those of a select: four numbers each.
func (m *machine) comms(f *frame, list []int) []*comm {
	const isSend = 2
	m.pay(len(list))
	var all []*comm
	for ; len(list) >= 4; list = list[4:] {
		if list[0] == isSend {
			all = append(all, m.send(f, list[1], list[2], list[3]))
		} else {
			all = append(all, m.receive(f, list[1], list[2], list[3]))
		}
	}
	return all
}

// canGoOn tells whether a comm needn't wait.
func (c *comm) canGoOn() bool {
	of := c.channel
	switch {
	case of == nil:
		return false
	case of.isClosed:
		return true
	case c.isSend:
		return of.receivers.first != nil || len(of.list) < of.places
	}
	return len(of.list) > 0 || of.senders.first != nil
}

// communicate makes one of the comms; if none can go on the function goes on at the instruction of the default, or waits.
func (m *machine) communicate(f *frame, comms []*comm, otherwise int) {
	var ready []*comm
	for _, c := range comms {
		if c.canGoOn() {
			ready = append(ready, c)
		}
	}
	switch {
	case len(ready) == 1:
		m.perform(f, ready[0])
	case len(ready) > 1:
		m.perform(f, ready[m.queue.Number()%len(ready)])
	case otherwise >= 0:
		f.at = otherwise
	default:
		m.wait(comms)
	}
}

func (m *machine) wait(comms []*comm) {
	for _, c := range comms {
		if c.channel != nil {
			c.line().push(c)
			c.task.waits = append(c.task.waits, c)
		}
	}
	m.next()
}

// perform makes a comm that can go on.
func (m *machine) perform(f *frame, c *comm) {
	switch {
	case !c.isSend:
		c.goOn(m.received(c.channel))
	case c.channel.isClosed:
		f.raise(sendOnClosed)
	default:
		m.deliver(c.channel, c.value)
		c.goOn(value{})
	}
}

// deliver gives what is sent to the first one who waits for it, or puts it into the list.
func (m *machine) deliver(to *channel, v value) {
	if first := to.receivers.first; first != nil {
		m.serve(first, v)
		return
	}
	to.list = append(to.list, v)
}

// received takes what a channel has; nothing, if it is closed and empty. Who waits to send puts his value behind the list, which may be empty: then it is the one that is taken.
func (m *machine) received(from *channel) value {
	if first := from.senders.first; first != nil {
		from.list = append(from.list, first.value)
		m.serve(first, value{})
	}
	if len(from.list) == 0 {
		return value{}
	}
	v := from.list[0]
	from.list = from.list[1:]
	return v
}

// goOn lets the function of a comm go on behind it, with what it received.
func (c *comm) goOn(received value) {
	f := c.task.top()
	f.at = c.next
	if !c.isSend {
		f.set(c.register, received)
	}
}

// serve ends the waiting of a goroutine, by one of its comms.
func (m *machine) serve(c *comm, received value) {
	t := c.task
	for _, other := range t.waits {
		other.line().remove(other)
	}
	t.waits = nil
	c.goOn(received)
	m.queue.Push(t.number)
}

func (m *machine) closeChannel(f *frame, c *channel) {
	switch {
	case c == nil:
		f.raise("close of nil channel")
		return
	case c.isClosed:
		f.raise("close of closed channel")
		return
	}
	c.isClosed = true
	for c.receivers.first != nil {
		m.serve(c.receivers.first, value{})
	}
	for c.senders.first != nil {
		sender := c.senders.first.task
		m.serve(c.senders.first, value{})
		sender.top().raise(sendOnClosed)
	}
}
