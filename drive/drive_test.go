package drive_test

import (
	"testing"

	"derrick/api"
	"derrick/drive"
)

const (
	enough = 20000000 // fuel for all sources that are meant to end
	great  = 1 << 18  // words in which these have room
)

// bothRun runs a source on both machines: they agree, and do what is wanted.
func bothRun(t *testing.T, src string, want api.Outcome) {
	t.Helper()
	o, fault := drive.Walk(src, nil, enough)
	if o != want || fault != (api.Fault{}) {
		t.Errorf("%s\nwalked: %+v %+v, not %+v", src, o, fault, want)
	}
	r, fault := drive.Run(src, api.Config{Words: great, Fuel: enough})
	if r.Outcome != want || fault != (api.Fault{}) {
		t.Errorf("%s\nrun: %+v %+v, not %+v", src, r.Outcome, fault, want)
	}
}

func TestTheChaptersExamples(t *testing.T) {
	if s := drive.Explain("a\n#", api.Fault{Stage: api.Lexical, At: 2}); s != "lexical: line 2, byte 1" {
		t.Errorf("%q", s)
	}
	bothRun(t, "func main() { print(1) }", exited("1"))
	if b, fault := drive.Compile("func"); len(b) != 0 || fault != (api.Fault{Stage: api.Syntax, At: 4}) {
		t.Errorf("%v %v", b, fault)
	}
}

func TestTheTenExamplesOfTheWhole(t *testing.T) {
	for _, x := range []struct {
		main string
		want api.Outcome
	}{
		{`x := 7; print(x*6, " ", x/2, " ", -x % 4)`, exited("42 3 -3")},
		{`s := "ab"; s += s; print(s[1:3], len(s), s[0])`, exited("ba497")},
		{`a := []int{1, 2}; b := append(a, 3); b[0] = 9; print(a[0], b[0], len(b), cap(b))`, exited("1934")},
		{`f := func(n int) func() int { return func() int { n++; return n } }; g := f(4); g(); print(g())`, exited("6")},
		{`c := make(chan int); go func() { for i := 0; i < 3; i++ { c <- i }; close(c) }(); print(<-c, <-c, <-c, <-c)`, exited("0120")},
		{`defer func() { print("!", recover()) }(); var a []int; print(a[0])`, exited("!index out of range")},
		{`switch 2 { case 1: print(1); case 2: print(2); fallthrough; default: print(9) }`, exited("29")},
		{`c := make(chan int); <-c`, fatal("", "fatal: all goroutines are asleep")},
		{`var f func(); f()`, fatal("", "panic: call of nil function")},
	} {
		bothRun(t, "func main() { "+x.main+" }", x.want)
	}
	const last = `func main() { for i := 0; i < 1000; i++ { s := make([]int, 50); s[0] = i }; print("ok") }`
	r, fault := drive.Run(last, api.Config{Words: 1024, Fuel: enough})
	if r.Outcome != exited("ok") || r.Told.Collected == 0 || r.Told.Made.Arrays != 1000 || r.Told.Points != 1002 || fault != (api.Fault{}) {
		t.Errorf("%+v %+v", r, fault)
	}
}

// TestWorks runs sources that do something whole.
func TestWorks(t *testing.T) {
	for _, w := range works {
		bothRun(t, w.src, w.want)
	}
}
