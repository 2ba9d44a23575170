package lower_test

import (
	"runtime"
	"slices"
	"strconv"
	"sync"

	"derrick/api"
)

// value is an int (a bool is 0 or 1), a string, an *object, *slice, *channel or *function, a *cell of a box; or nil.
// Something that is no number and was never made is nil, the empty string too.
type value any

type cell struct{ value value }

type object struct{ fields []value }

type slice struct {
	array            []value // as long as the capacity of all slices of it
	from, length, to int     // to: where the capacity ends
}

// function has the variables that it was made among, if it comes of a tree, or its boxes, if it comes of a program.
type function struct {
	number int
	among  map[int]*cell
	boxes  []*cell
}

type channel struct {
	places  int
	zero    value
	list    []value
	closed  bool
	takers  []*waiting
	senders []*waiting
}

// waiting is a task in a line of a channel, with the comm that it waits with.
type waiting struct {
	task  *task
	at    *channel
	send  bool
	value value
	comm  int
}

type made struct{ boxes, closures, objects, arrays, chans int }

// crash is a panic of the source.
type crash struct{ message string }

// world is what a run works on, whoever evaluates it: its tasks, of which one works at a time, its output, its end.
type world struct {
	script  []int
	queue   []*task
	alive   int
	steps   int
	limit   int
	points  int
	output  []byte
	made    made
	outcome api.Outcome
	over    chan struct{}
	group   sync.WaitGroup
}

type task struct {
	resume chan struct{}
	depth  int
	lines  []*waiting
	chosen int
	got    value
	broken bool // the channel to which it waited to send was closed
}

func newWorld(script []int, limit int) *world {
	return &world{script: script, limit: limit, over: make(chan struct{})}
}

// run runs main, and all that it starts, to the end.
func (w *world) run(main func(t *task)) {
	t := w.start(main, true)
	t.resume <- struct{}{}
	w.group.Wait()
}

func (w *world) start(body func(t *task), isMain bool) *task {
	t := &task{resume: make(chan struct{})}
	w.alive++
	w.group.Go(func() {
		w.await(t)
		if c, ok := attempt(func() { body(t) }); !ok {
			w.end(api.Fatal, 2, "panic: "+c.message)
		}
		if isMain {
			w.end(api.Exited, 0, "")
		}
		w.alive--
		w.next()
	})
	return t
}

// attempt tells whether something was done without a panic of the source.
func attempt(do func()) (c crash, ok bool) {
	defer func() {
		if r := recover(); r != nil {
			c = r.(crash)
		}
	}()
	do()
	return crash{}, true
}

// end ends the run, and the task that works.
func (w *world) end(state, code int, why string) {
	w.outcome = api.Outcome{State: state, Code: code, Output: string(w.output), Why: why}
	close(w.over)
	runtime.Goexit()
}

func (w *world) await(t *task) {
	select {
	case <-t.resume:
	case <-w.over:
		runtime.Goexit()
	}
}

func (w *world) step() {
	w.steps++
	if w.steps > w.limit {
		w.end(api.Running, 0, "")
	}
}

func (w *world) number() int {
	if len(w.script) == 0 {
		return 0
	}
	n := w.script[0]
	w.script = w.script[1:]
	return max(n, 0)
}

// pick takes the one at a place out of the queue.
func (w *world) pick(place int) *task {
	k := place % len(w.queue)
	t := w.queue[k]
	w.queue = slices.Delete(w.queue, k, k+1)
	return t
}

// next hands on to another, when the one that works can't go on.
func (w *world) next() {
	n := w.number()
	if len(w.queue) == 0 {
		w.end(api.Fatal, 2, "fatal: all goroutines are asleep")
	}
	w.pick(n).resume <- struct{}{}
}

func (w *world) safepoint(t *task) {
	w.points++
	n := w.number()
	if n%2 == 0 || len(w.queue) == 0 {
		return
	}
	w.queue = append(w.queue, t)
	if other := w.pick(n / 2); other != t {
		other.resume <- struct{}{}
		w.await(t)
	}
}

// frame is what a call under way needs, beside what its evaluator keeps.
type frame struct {
	task      *task
	by        *frame // who deferred the call; or nobody
	deferred  []func()
	panicking bool
	message   string
}

// call makes a call: body evaluates the function, to what it answers.
func (w *world) call(t *task, by *frame, zero value, body func(f *frame) value) value {
	if t.depth == api.MaxDepth {
		w.end(api.Fatal, 2, "fatal: stack overflow")
	}
	t.depth++
	f := &frame{task: t, by: by}
	answer := zero
	if c, ok := attempt(func() { answer = body(f) }); !ok {
		f.panicking, f.message = true, c.message
	}
	for len(f.deferred) > 0 {
		last := len(f.deferred) - 1
		do := f.deferred[last]
		f.deferred = f.deferred[:last]
		if c, ok := attempt(do); !ok {
			answer, f.panicking, f.message = zero, true, c.message
		}
	}
	t.depth--
	if f.panicking {
		panic(crash{f.message})
	}
	return answer
}

func (f *frame) recovered() string {
	if f.by == nil || !f.by.panicking {
		return ""
	}
	f.by.panicking = false
	return f.by.message
}

// launch is what a go does, when its operands are evaluated.
func (w *world) launch(body func(t *task)) {
	if w.alive == api.MaxTasks {
		w.end(api.Fatal, 2, "fatal: too many goroutines")
	}
	w.queue = append(w.queue, w.start(body, false))
}

func (w *world) put(text string) {
	if len(w.output)+len(text) > api.MaxOutput {
		w.end(api.Fatal, 2, "fatal: too much output")
	}
	w.output = append(w.output, text...)
}

// printed is what is put out of something, as its type is: 0 a number, 1 a bool, 2 a text.
func printed(v value, as int) string {
	switch {
	case as == 2:
		return textOf(v)
	case as == 1:
		return strconv.FormatBool(v.(int) == 1)
	}
	return strconv.Itoa(v.(int))
}

func must(holds bool, message string) {
	if !holds {
		panic(crash{message})
	}
}

func numberOf(holds bool) value {
	if holds {
		return 1
	}
	return 0
}

func textOf(v value) string {
	if v == nil {
		return ""
	}
	return v.(string)
}

func zeroOf(ref bool) value {
	if ref {
		return nil
	}
	return 0
}

func (w *world) newObject(refs []bool) *object {
	w.made.objects++
	o := &object{}
	for _, ref := range refs {
		o.fields = append(o.fields, zeroOf(ref))
	}
	return o
}

func fieldsOf(v value) []value {
	must(v != nil, "nil dereference")
	return v.(*object).fields
}

func (w *world) newSlice(items []value) *slice {
	w.made.arrays++
	return &slice{array: slices.Clone(items), length: len(items), to: len(items)}
}

func (w *world) makeSlice(n int, zero value) *slice {
	must(n >= 0 && n <= api.MaxMake, "bad length")
	return w.newSlice(slices.Repeat([]value{zero}, n))
}

func (w *world) makeChan(n int, zero value) *channel {
	must(n >= 0 && n <= api.MaxMake, "bad length")
	w.made.chans++
	return &channel{places: n, zero: zero}
}

// itemOf is where an item of a slice stands.
func itemOf(v value, k int) *value {
	s, _ := v.(*slice)
	must(s != nil && k >= 0 && k < s.length, "index out of range")
	return &s.array[s.from+k]
}

func byteOf(text string, k int) value {
	must(k >= 0 && k < len(text), "index out of range")
	return int(text[k])
}

// sizes are a slice's length and capacity.
func sizes(v value) (int, int) {
	s, _ := v.(*slice)
	if s == nil {
		return 0, 0
	}
	return s.length, s.to - s.from
}

func cutSlice(v value, low, high int) value {
	_, capacity := sizes(v)
	must(0 <= low && low <= high && high <= capacity, "slice bounds out of range")
	if v == nil {
		return nil
	}
	s := v.(*slice)
	return &slice{array: s.array, from: s.from + low, length: high - low, to: s.to}
}

func cutText(text string, low, high int) value {
	must(0 <= low && low <= high && high <= len(text), "slice bounds out of range")
	return text[low:high]
}

func join(left, right value) value {
	text := textOf(left) + textOf(right)
	must(len(text) <= api.MaxSlots, "text too long")
	return text
}

func (w *world) appended(v value, items []value, zero value) value {
	if len(items) == 0 {
		return v
	}
	length, capacity := sizes(v)
	wanted := length + len(items)
	must(wanted <= api.MaxSlots, "slice too long")
	if wanted <= capacity {
		s := v.(*slice)
		copy(s.array[s.from+length:], items)
		return &slice{array: s.array, from: s.from, length: wanted, to: s.to}
	}
	var all []value
	for k := range length {
		all = append(all, *itemOf(v, k))
	}
	all = append(all, items...)
	room := min(max(2*capacity, wanted), api.MaxSlots)
	s := w.newSlice(append(all, slices.Repeat([]value{zero}, room-wanted)...))
	s.length = wanted
	return s
}

func divide(left, right int, remains bool) value {
	must(right != 0, "divide by zero")
	if remains {
		return left % right
	}
	return left / right
}

// comm is a send or a receive that is about to be.
type comm struct {
	at    *channel
	send  bool
	value value
}

func (c comm) canGoOn() bool {
	switch {
	case c.at == nil:
		return false
	case c.at.closed:
		return true
	case c.send:
		return len(c.at.takers) > 0 || len(c.at.list) < c.at.places
	}
	return len(c.at.list) > 0 || len(c.at.senders) > 0
}

// communicate does one of the comms, and tells which (-1: the default), and what was received.
func (w *world) communicate(t *task, comms []comm, hasDefault bool) (int, value) {
	var ready []int
	for k, c := range comms {
		if c.canGoOn() {
			ready = append(ready, k)
		}
	}
	switch {
	case len(ready) == 1:
		return ready[0], w.do(comms[ready[0]])
	case len(ready) > 1:
		k := ready[w.number()%len(ready)]
		return k, w.do(comms[k])
	case hasDefault:
		return -1, nil
	}
	for k, c := range comms {
		if c.at != nil {
			c.wait(t, k)
		}
	}
	w.next()
	w.await(t)
	must(!t.broken, "send on closed channel")
	return t.chosen, t.got
}

func (c comm) wait(t *task, k int) {
	x := &waiting{task: t, at: c.at, send: c.send, value: c.value, comm: k}
	t.lines = append(t.lines, x)
	if c.send {
		c.at.senders = append(c.at.senders, x)
	} else {
		c.at.takers = append(c.at.takers, x)
	}
}

func (w *world) do(c comm) value {
	if c.send {
		must(!c.at.closed, "send on closed channel")
		if len(c.at.takers) > 0 {
			w.serve(c.at.takers[0], c.value, false)
		} else {
			c.at.list = append(c.at.list, c.value)
		}
		return nil
	}
	if len(c.at.list) == 0 && len(c.at.senders) == 0 {
		return c.at.zero
	}
	if len(c.at.senders) > 0 {
		first := c.at.senders[0]
		c.at.list = append(c.at.list, first.value)
		w.serve(first, nil, false)
	}
	v := c.at.list[0]
	c.at.list = c.at.list[1:]
	return v
}

// serve lets a task that waits go on.
func (w *world) serve(x *waiting, got value, broken bool) {
	t := x.task
	t.chosen, t.got, t.broken = x.comm, got, broken
	for _, line := range t.lines {
		isIt := func(other *waiting) bool { return other == line }
		line.at.takers = slices.DeleteFunc(line.at.takers, isIt)
		line.at.senders = slices.DeleteFunc(line.at.senders, isIt)
	}
	t.lines = nil
	w.queue = append(w.queue, t)
}

func (w *world) closeChan(v value) {
	must(v != nil, "close of nil channel")
	c := v.(*channel)
	must(!c.closed, "close of closed channel")
	c.closed = true
	for len(c.takers) > 0 {
		w.serve(c.takers[0], c.zero, false)
	}
	for len(c.senders) > 0 {
		w.serve(c.senders[0], nil, true)
	}
}

func chanOf(v value) *channel {
	c, _ := v.(*channel)
	return c
}
