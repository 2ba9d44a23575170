package walk_test

import (
	"fmt"
	"iter"
	"slices"

	"derrick/api"
	"derrick/walk"
)

// world is what a tree's run works on: its tasks are coroutines, one of which is resumed at a time.
type world struct {
	script  []int
	most    int
	steps   int
	tasks   []*task
	queue   []*task
	alive   int
	now     *task
	output  []byte
	made    walk.Made
	outcome api.Outcome
}

type task struct {
	resume func() (struct{}, bool)
	stop   func()
	park   func() // hands on to whoever is now; comes back when the task is resumed
	depth  int
	offers []*offer // what it waited for last
	taken  *offer   // by which that ended
	shut   bool     // it waited to send, and the channel was closed
}

// Panics: of the source, and those that end a run or a task.
type (
	crash   struct{ message string } // a panic of the source
	ended   struct{}                 // of the run
	stopped struct{}                 // of a task that isn't wanted any more
)

func must(holds bool, message string) {
	if !holds {
		panic(crash{message})
	}
}

// run runs main, and all that it starts, to the end.
func (w *world) run(main func(t *task)) {
	defer func() {
		for _, t := range w.tasks {
			t.stop()
		}
	}()
	defer func() {
		if r := recover(); r != nil && r != (ended{}) {
			panic(r)
		}
	}()
	w.now = w.newTask(main)
	for {
		w.now.resume()
	}
}

func (w *world) newTask(body func(t *task)) *task {
	t := &task{}
	isMain := len(w.tasks) == 0
	w.tasks = append(w.tasks, t)
	w.alive++
	t.resume, t.stop = iter.Pull(func(yield func(struct{}) bool) {
		defer func() {
			if r := recover(); r != nil && r != (stopped{}) {
				panic(r)
			}
		}()
		t.park = func() {
			if !yield(struct{}{}) {
				panic(stopped{})
			}
		}
		if c := caught(func() { body(t) }); c != nil {
			w.end(api.Fatal, "panic: "+c.message)
		}
		if isMain {
			w.end(api.Exited, "")
		}
		w.alive--
		w.handOn()
	})
	return t
}

// caught does something, and tells the panic of the source that came of it.
func caught(do func()) (c *crash) {
	defer func() {
		if r := recover(); r != nil {
			x, ok := r.(crash)
			if !ok {
				panic(r)
			}
			c = &x
		}
	}()
	do()
	return nil
}

func (w *world) end(state int, why string) {
	w.outcome = api.Outcome{State: state, Output: string(w.output), Why: why}
	if state == api.Fatal {
		w.outcome.Code = 2
	}
	panic(ended{})
}

func (w *world) step() {
	w.steps++
	if w.steps > w.most {
		w.end(api.Running, "")
	}
}

func (w *world) number() int {
	if len(w.script) == 0 {
		return 0
	}
	n := w.script[0]
	w.script = w.script[1:]
	if n < 0 {
		return 0
	}
	return n
}

// turn makes the task at a place of the queue the one that is now.
func (w *world) turn(n int) {
	place := n % len(w.queue)
	w.now = w.queue[place]
	w.queue = slices.Delete(w.queue, place, place+1)
}

// handOn is done when the task that is now waits or ends.
func (w *world) handOn() {
	n := w.number()
	if len(w.queue) == 0 {
		w.end(api.Fatal, "fatal: all goroutines are asleep")
	}
	w.turn(n)
}

func (w *world) safepoint(t *task) {
	n := w.number()
	if n%2 == 0 || len(w.queue) == 0 {
		return
	}
	w.queue = append(w.queue, t)
	w.turn(n / 2)
	if w.now != t {
		t.park()
	}
}

func (w *world) launch(body func(t *task)) {
	if w.alive == api.MaxTasks {
		w.end(api.Fatal, "fatal: too many goroutines")
	}
	w.queue = append(w.queue, w.newTask(body))
}

// invocation is a call under way.
type invocation struct {
	task      *task
	by        *invocation // who deferred it
	deferred  []func()
	panicking *crash
}

// under makes a call: the body, then what it deferred. It tells whether the call was panicking at some time.
func (w *world) under(t *task, by *invocation, body func(c *invocation)) (panicked bool) {
	if t.depth == api.MaxDepth {
		w.end(api.Fatal, "fatal: stack overflow")
	}
	t.depth++
	c := &invocation{task: t, by: by}
	c.panicking = caught(func() { body(c) })
	panicked = c.panicking != nil
	for len(c.deferred) > 0 {
		do := c.deferred[len(c.deferred)-1]
		c.deferred = c.deferred[:len(c.deferred)-1]
		if anew := caught(do); anew != nil {
			c.panicking, panicked = anew, true
		}
	}
	t.depth--
	if c.panicking != nil {
		panic(*c.panicking)
	}
	return panicked
}

func (c *invocation) recovered() string {
	if c.by == nil || c.by.panicking == nil {
		return ""
	}
	message := c.by.panicking.message
	c.by.panicking = nil
	return message
}

func (w *world) put(args []any) {
	for _, v := range args {
		text := fmt.Sprint(v)
		if len(w.output)+len(text) > api.MaxOutput {
			w.end(api.Fatal, "fatal: too much output")
		}
		w.output = append(w.output, text...)
	}
}

// record is an object.
type record struct {
	fields map[string]*any
}

func (o *record) field(name string) *any {
	must(o != nil, "nil dereference")
	return o.fields[name]
}

// list is a slice: some of the cells of an array.
type list struct {
	array  []*any
	from   int
	length int
}

func asList(v any) *list {
	if l, ok := v.(*list); ok {
		return l
	}
	return &list{}
}

func (l *list) capacity() int { return len(l.array) - l.from }

func (l *list) place(k int) *any {
	must(k >= 0 && k < l.length, "index out of range")
	return l.array[l.from+k]
}

func (l *list) cut(low, high int) *list {
	return &list{array: l.array, from: l.from + low, length: high - low}
}

func (w *world) newList(items []any) *list {
	w.made.Arrays++
	l := &list{length: len(items)}
	for _, v := range items {
		l.array = append(l.array, newCell(v))
	}
	return l
}

func (w *world) appended(v any, items []any, zero any) any {
	if len(items) == 0 {
		return v
	}
	l := asList(v)
	length := l.length + len(items)
	must(length <= api.MaxSlots, "slice too long")
	longer := &list{array: l.array, from: l.from, length: length}
	if length > l.capacity() {
		longer = w.newList(slices.Repeat([]any{zero}, min(api.MaxSlots, max(length, 2*l.capacity()))))
		longer.length = length
		for k := range l.length {
			*longer.place(k) = *l.place(k)
		}
	}
	for k, x := range items {
		*longer.place(l.length + k) = x
	}
	return longer
}

func sizes(v any) (length, capacity int) {
	switch x := v.(type) {
	case string:
		return len(x), 0
	case *list:
		return x.length, x.capacity()
	case *channel:
		return len(x.items), x.places
	}
	return 0, 0
}

type channel struct {
	places int
	zero   any
	items  []any
	closed bool
	line   []*offer // all who wait, to send and to receive
}

// offer is a send or a receive; what is received is its item then.
type offer struct {
	task  *task
	at    *channel
	sends bool
	item  any
}

// first is the first one in the line who sends, or receives.
func (c *channel) first(sends bool) *offer {
	k := slices.IndexFunc(c.line, func(o *offer) bool { return o.sends == sends })
	if k < 0 {
		return nil
	}
	return c.line[k]
}

func (o *offer) isReady() bool {
	c := o.at
	if c == nil {
		return false
	}
	if o.sends {
		return c.closed || c.first(false) != nil || len(c.items) < c.places
	}
	return c.closed || c.first(true) != nil || len(c.items) > 0
}

// settle makes one of the offers, and tells which; nil: none, for there is another way.
func (w *world) settle(t *task, offers []*offer, hasOther bool) *offer {
	ready := slices.DeleteFunc(slices.Clone(offers), func(o *offer) bool { return !o.isReady() })
	if len(ready) > 0 {
		o := ready[0]
		if len(ready) > 1 {
			o = ready[w.number()%len(ready)]
		}
		w.make(o)
		return o
	}
	if hasOther {
		return nil
	}
	t.offers, t.shut = offers, false
	for _, o := range offers {
		if o.at != nil {
			o.at.line = append(o.at.line, o)
		}
	}
	w.handOn()
	t.park()
	must(!t.shut, "send on closed channel")
	return t.taken
}

func (w *world) make(o *offer) {
	c := o.at
	if o.sends {
		must(!c.closed, "send on closed channel")
		if to := c.first(false); to != nil {
			to.item = o.item
			w.wake(to)
			return
		}
		c.items = append(c.items, o.item)
		return
	}
	if from := c.first(true); from != nil {
		c.items = append(c.items, from.item)
		w.wake(from)
	}
	o.item = c.zero
	if len(c.items) > 0 {
		o.item = c.items[0]
		c.items = c.items[1:]
	}
}

// wake ends the waiting of a task, by one of its offers: it leaves all lines.
func (w *world) wake(o *offer) {
	t := o.task
	for _, other := range t.offers {
		if other.at != nil {
			other.at.line = slices.DeleteFunc(other.at.line, func(x *offer) bool { return x.task == t })
		}
	}
	t.taken = o
	w.queue = append(w.queue, t)
}

func (w *world) shut(v any) {
	c, _ := v.(*channel)
	must(c != nil, "close of nil channel")
	must(!c.closed, "close of closed channel")
	c.closed = true
	for o := c.first(false); o != nil; o = c.first(false) {
		o.item = c.zero
		w.wake(o)
	}
	for o := c.first(true); o != nil; o = c.first(true) {
		o.task.shut = true
		w.wake(o)
	}
}
