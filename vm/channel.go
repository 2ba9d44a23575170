package vm

import (
	"derrick/code"
	"derrick/mail"
)

const sendOnClosed = "send on closed channel"

func (m *machine) channelOperation(f *frame, i *code.Instr) {
	switch i.Op {
	case code.Send:
		m.communicate(f, []*comm{m.comm(f, true, i.A, i.B, f.at)}, nowhere)
	case code.Recv:
		m.communicate(f, []*comm{m.comm(f, false, i.B, i.A, f.at)}, nowhere)
	case code.Close:
		m.closeChannel(f, f.get(i.A))
	case code.Select:
		m.communicate(f, m.comms(f, i.List), i.B)
	}
}

func (m *machine) comm(f *frame, isSend bool, channel, register, next int) *comm {
	return &comm{door: door{f.get(channel), isSend}, task: m.now, register: register, next: next}
}

// comms are those of a select: four numbers each.
func (m *machine) comms(f *frame, list []int) []*comm {
	const isSend = 2
	m.pay(len(list))
	var all []*comm
	for ; len(list) >= 4; list = list[4:] {
		all = append(all, m.comm(f, list[0] == isSend, list[1], list[2], list[3]))
	}
	return all
}

// canGoOn tells whether a comm needn't wait.
func (m *machine) canGoOn(c *comm) bool {
	count, places := mail.Count(m.space, c.channel)
	switch {
	case c.channel == 0:
		return false
	case mail.Closed(m.space, c.channel) || m.first(c.otherSide()) != nil:
		return true
	case c.isSend:
		return count < places
	}
	return count > 0
}

// communicate makes one of the comms; if none can go on the function goes on at the instruction of the default, or waits.
func (m *machine) communicate(f *frame, comms []*comm, otherwise int) {
	var ready []*comm
	for _, c := range comms {
		if m.canGoOn(c) {
			ready = append(ready, c)
		}
	}
	switch {
	case len(ready) == 1:
		m.perform(f, ready[0])
	case len(ready) > 1:
		m.perform(f, ready[m.queue.Number()%len(ready)])
	case otherwise >= 0:
		f.at = otherwise
	default:
		m.wait(comms)
	}
}

// wait lets a goroutine wait in the lines of its comms; of nil it waits in none, forever.
func (m *machine) wait(comms []*comm) {
	for _, c := range comms {
		if c.channel != 0 {
			m.lineUp(c)
			c.task.waits = append(c.task.waits, c)
		}
	}
	m.next()
}

// perform makes a comm that can go on.
func (m *machine) perform(f *frame, c *comm) {
	switch {
	case !c.isSend:
		c.goOn(m.received(c))
	case mail.Closed(m.space, c.channel):
		f.raise(sendOnClosed)
	default:
		m.deliver(c)
		c.goOn(0)
	}
}

// deliver gives what is sent to the first one who waits for it, or puts it into the list.
func (m *machine) deliver(c *comm) {
	if receiver := m.first(c.otherSide()); receiver != nil {
		m.serve(receiver, c.sent())
		return
	}
	mail.Push(m.space, c.channel, c.sent())
}

// received takes what a channel has; zero, if it is closed and empty. Who waits to send puts his word behind the list;
// if that is empty, for it has no places, it is the word that is taken.
func (m *machine) received(c *comm) int {
	w, ok := mail.Shift(m.space, c.channel)
	sender := m.first(c.otherSide())
	if sender == nil {
		return w
	}
	sent := sender.sent()
	m.serve(sender, 0)
	if !ok {
		return sent
	}
	mail.Push(m.space, c.channel, sent)
	return w
}

// serve ends the waiting of a goroutine, by one of its comms.
func (m *machine) serve(c *comm, received int) {
	t := c.task
	for _, other := range t.waits {
		m.lineOff(other)
	}
	t.waits = nil
	c.goOn(received)
	m.queue.Push(t.number)
}

func (m *machine) closeChannel(f *frame, w int) {
	switch {
	case w == 0:
		f.raise("close of nil channel")
	case !mail.Close(m.space, w):
		f.raise("close of closed channel")
	default:
		m.wakeAll(w)
	}
}

// wakeAll ends the waiting of all at a channel that is closed.
func (m *machine) wakeAll(w int) {
	for c := m.first(door{w, false}); c != nil; c = m.first(door{w, false}) {
		m.serve(c, 0)
	}
	for c := m.first(door{w, true}); c != nil; c = m.first(door{w, true}) {
		m.serve(c, 0)
		c.task.top().raise(sendOnClosed)
	}
}
