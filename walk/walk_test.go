package walk_test

import (
	"testing"

	"derrick/api"
	"derrick/check"
	"derrick/code"
	"derrick/lower"
	"derrick/walk"
)

// compiled is a right source's unit, and its program.
func compiled(t *testing.T, src string) (api.Unit, code.Program) {
	t.Helper()
	u, fault := check.Check(src)
	if fault != (api.Fault{}) {
		t.Fatalf("%s\n%+v", src, fault)
	}
	return u, lower.Program(u)
}

// mostSteps are enough of the document's steps for all sources that are meant to end.
const mostSteps = 4000000

// outcome runs a source with the fuel that is enough for its steps, and asks that its trees mean the same.
func outcome(t *testing.T, src string, script []int) (api.Outcome, walk.Made) {
	t.Helper()
	u, p := compiled(t, src)
	want, wantMade, steps := readTree(u, script, mostSteps)
	got, made := walk.Run(p, script, 1000*steps)
	if got != want || made != wantMade {
		t.Errorf("%.3000s\n%v\n%+v %+v, but it means\n%+v %+v", src, script, short(got), made, short(want), wantMade)
	}
	return got, made
}

// short is an outcome that can be told.
func short(o api.Outcome) api.Outcome {
	if len(o.Output) > 200 {
		o.Output = o.Output[:100] + " .. " + o.Output[len(o.Output)-100:]
	}
	return o
}

// row is what main does, what stands behind it in the file, and what comes of it: why is empty, if it exits.
type row struct {
	main   string
	output string
	why    string
	file   string
	script []int
}

func (r row) source() string { return "func main() { " + r.main + " }\n" + r.file }

func (r row) want() api.Outcome {
	if r.why != "" {
		return api.Outcome{State: api.Fatal, Code: 2, Output: r.output, Why: r.why}
	}
	return api.Outcome{State: api.Exited, Output: r.output}
}

func (r row) run(t *testing.T) {
	t.Helper()
	if got, _ := outcome(t, r.source(), r.script); got != r.want() {
		t.Errorf("%.3000s\n%v\n%+v, not\n%+v", r.source(), r.script, short(got), short(r.want()))
	}
}

func runAll(t *testing.T, file string, rows []row) {
	t.Helper()
	for _, r := range rows {
		r.file += file
		r.run(t)
	}
}

func TestTheChaptersExamples(t *testing.T) {
	o, made := outcome(t, "func main() { x := 1; f := func() { x++ }; f(); print(x) }", nil)
	if o != (api.Outcome{State: api.Exited, Output: "2"}) || made != (walk.Made{Boxes: 1, Closures: 1}) {
		t.Errorf("%+v %+v", o, made)
	}
	runAll(t, "", []row{
		{main: "print(1/0)", why: "panic: divide by zero"},
		{main: "c := make(chan int); <-c", why: "fatal: all goroutines are asleep"},
	})
}

func TestTheTenExamplesOfTheWhole(t *testing.T) {
	runAll(t, "", []row{
		{main: `x := 7; print(x*6, " ", x/2, " ", -x % 4)`, output: "42 3 -3"},
		{main: `s := "ab"; s += s; print(s[1:3], len(s), s[0])`, output: "ba497"},
		{main: `a := []int{1, 2}; b := append(a, 3); b[0] = 9; print(a[0], b[0], len(b), cap(b))`, output: "1934"},
		{main: `f := func(n int) func() int { return func() int { n++; return n } }; g := f(4); g(); print(g())`, output: "6"},
		{main: `c := make(chan int); go func() { for i := 0; i < 3; i++ { c <- i }; close(c) }(); print(<-c, <-c, <-c, <-c)`, output: "0120"},
		{main: `defer func() { print("!", recover()) }(); var a []int; print(a[0])`, output: "!index out of range"},
		{main: `switch 2 { case 1: print(1); case 2: print(2); fallthrough; default: print(9) }`, output: "29"},
		{main: `c := make(chan int); <-c`, why: "fatal: all goroutines are asleep"},
		{main: `var f func(); f()`, why: "panic: call of nil function"},
		{main: `for i := 0; i < 1000; i++ { s := make([]int, 50); s[0] = i }; print("ok")`, output: "ok"},
	})
}
