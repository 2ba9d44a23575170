package vm_test

import (
	"slices"
	"strconv"
	"strings"
	"testing"

	"derrick/api"
	"derrick/vm"
	"derrick/walk"
)

// lineFile has settle, which lets all others run, and things that are made anew each time.
const lineFile = `
type T struct { s string; }
func settle() { c := make(chan int); go func() { c <- 1 }(); <-c }
func fresh(s string) *T { a := []string{s, s + "!"}; return &T{s: a[1]} }
`

// orders goes through the orders in which some of n may leave: from none of them to all.
func orders(n int, yield func(left []int)) {
	var more func(left []int)
	more = func(left []int) {
		yield(left)
		for k := range n {
			if !slices.Contains(left, k) {
				more(append(slices.Clone(left), k))
			}
		}
	}
	more(nil)
}

// waits are ways to wait at c and at a door of one's own, d[k]; how main serves one of them at a channel, and what comes of all who are left when c is closed.
var waits = []struct {
	wait, atDoor, atC, closed string
	told                      func(k int, at string) string // what is put out, of who is served at the channel c or d
}{
	{
		wait:   `select { case p := <-c: if p == nil { print(k, "closed ") } else { print(k, p.s, " ") }; case p := <-d[k]: print(k, p.s, " ") }`,
		atDoor: `d[K] <- fresh("d")`, atC: `c <- fresh("c")`, closed: "closed ",
		told: func(k int, at string) string { return strconv.Itoa(k) + at + "! " },
	},
	{
		wait:   `defer func() { if recover() != "" { print(k, "closed ") } }(); select { case d[k] <- fresh("d"): print(k); case c <- fresh("c"): print(k) }`,
		atDoor: `print((<-d[K]).s)`, atC: `print((<-c).s)`, closed: "closed ",
		told: func(k int, at string) string { return at + "!" + strconv.Itoa(k) },
	},
}

// TestLeavingLines lets goroutines leave the line of a channel from each place, in each order, for they are served at a channel of their own; then one more waits, and the others are served, or the channel is closed.
func TestLeavingLines(t *testing.T) {
	for _, w := range waits {
		orders(4, func(left []int) {
			ahead := `c := make(chan *T); d := []chan *T{make(chan *T), make(chan *T), make(chan *T), make(chan *T), nil}
start := func(k int) { go func() { ` + w.wait + ` }(); settle() }
for i := 0; i < 4; i++ { start(i) }
`
			output := ""
			line := []int{0, 1, 2, 3}
			for _, k := range left {
				ahead += strings.ReplaceAll(w.atDoor, "K", strconv.Itoa(k)) + "; settle()\n"
				output += w.told(k, "d")
				line = slices.DeleteFunc(line, func(other int) bool { return other == k })
			}
			ahead += "start(4)\n"
			line = append(line, 4)
			served, closed := output, output
			for _, k := range line {
				served += w.told(k, "c")
				closed += strconv.Itoa(k) + w.closed
			}
			agreesOn(t, source(ahead+strings.Repeat(w.atC+"; settle()\n", len(line)), lineFile), served)
			agreesOn(t, source(ahead+"close(c); settle()", lineFile), closed)
		})
	}
}

// agreesOn asks both machines for a run that exits with an output.
func agreesOn(t *testing.T, src, output string) {
	t.Helper()
	p := compiled(t, src)
	want := api.Outcome{State: api.Exited, Output: output}
	if o, _ := walk.Run(p, nil, enough); o != want {
		t.Errorf("%s\nwithout bounds: %+v, not %q", src, o, output)
	}
	for _, force := range [][]int{nil, everyPoint} {
		if o, d := vm.Run(p, api.Config{Words: 1024, Force: force, Fuel: enough}); o != want {
			t.Errorf("%s\n%+v %+v, not %q", src, o, d, output)
		}
	}
}
