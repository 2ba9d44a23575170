package vm_test

import (
	"math"
	"slices"
	"strings"
	"testing"

	"derrick/api"
	"derrick/check"
	"derrick/code"
	"derrick/lower"
	"derrick/vm"
	"derrick/walk"
)

const (
	enough = 20000000 // fuel for all sources that are meant to end
	great  = 1 << 18  // words in which these have room without a collection
)

var outOfMemory = api.Outcome{State: api.NoMemory, Code: 2, Why: "out of memory"}

func compiled(t *testing.T, src string) code.Program {
	t.Helper()
	u, fault := check.Check(src)
	if fault != (api.Fault{}) {
		t.Fatalf("%s\n%+v", src, fault)
	}
	return lower.Program(u)
}

// source is a file in which main does something.
func source(main, file string) string { return file + "\nfunc main() { " + main + " }\n" }

func run(t *testing.T, src string, c api.Config) (api.Outcome, vm.Told) {
	t.Helper()
	return vm.Run(compiled(t, src), c)
}

// upTo are the numbers 1 to n: all safepoints, of a run that reaches no more.
func upTo(n int) []int {
	all := make([]int, n)
	for k := range all {
		all[k] = k + 1
	}
	return all
}

// everyPoint are all safepoints of the runs of the tests' own sources, as far as it matters.
var everyPoint = upTo(3000)

// short is an outcome that can be told.
func short(o api.Outcome) api.Outcome {
	if len(o.Output) > 200 {
		o.Output = o.Output[:100] + " .. " + o.Output[len(o.Output)-100:]
	}
	return o
}

func TestTheChaptersExamples(t *testing.T) {
	// The chapter writes it without the semicolon behind the block, which layer 2 asks for.
	o, d := run(t, "func main() { for i := 0; i < 1000; i++ { s := make([]int, 50); s[0] = i }; print(\"ok\") }", api.Config{Words: 1024, Fuel: enough})
	if o != (api.Outcome{State: api.Exited, Output: "ok"}) || d.Collected == 0 || d.Made != (walk.Made{Arrays: 1000}) {
		t.Errorf("%+v %+v", o, d)
	}
	const grows = "type T struct { n int; }\nvar g []*T\nfunc main() { for { g = append(g, new(T)) } }"
	for _, words := range []int{128, 1024, 10000, 30000} {
		o, d := run(t, grows, api.Config{Words: words, Fuel: enough})
		if o != outOfMemory || d.Collected == 0 || d.Made.Objects == 0 || d.Blocks != d.Reached {
			t.Errorf("%d words: %+v %+v", words, o, d)
		}
	}
}

func TestTheTenExamplesOfTheWhole(t *testing.T) {
	for _, x := range []struct {
		main, output, why string
		words             int
	}{
		{main: `x := 7; print(x*6, " ", x/2, " ", -x % 4)`, output: "42 3 -3"},
		{main: `s := "ab"; s += s; print(s[1:3], len(s), s[0])`, output: "ba497"},
		{main: `a := []int{1, 2}; b := append(a, 3); b[0] = 9; print(a[0], b[0], len(b), cap(b))`, output: "1934"},
		{main: `f := func(n int) func() int { return func() int { n++; return n } }; g := f(4); g(); print(g())`, output: "6"},
		{main: `c := make(chan int); go func() { for i := 0; i < 3; i++ { c <- i }; close(c) }(); print(<-c, <-c, <-c, <-c)`, output: "0120"},
		{main: `defer func() { print("!", recover()) }(); var a []int; print(a[0])`, output: "!index out of range"},
		{main: `switch 2 { case 1: print(1); case 2: print(2); fallthrough; default: print(9) }`, output: "29"},
		{main: `c := make(chan int); <-c`, why: "fatal: all goroutines are asleep"},
		{main: `var f func(); f()`, why: "panic: call of nil function"},
		{main: `for i := 0; i < 1000; i++ { s := make([]int, 50); s[0] = i }; print("ok")`, output: "ok", words: 1024},
	} {
		want := api.Outcome{State: api.Exited, Output: x.output}
		if x.why != "" {
			want = api.Outcome{State: api.Fatal, Code: 2, Output: x.output, Why: x.why}
		}
		for _, force := range [][]int{nil, {1}, {2, 4, 6}, everyPoint} {
			for _, words := range []int{1024, 8192, great} {
				o, d := run(t, source(x.main, ""), api.Config{Words: words, Fuel: enough, Force: force})
				if o != want || words == x.words && d.Collected == 0 {
					t.Errorf("%s, %d words: %+v %+v", x.main, words, o, d)
				}
			}
		}
	}
}

// TestNoSpace asks that nothing is done without one, with fuel or without.
func TestNoSpace(t *testing.T) {
	p := compiled(t, source(`print("a")`, ""))
	for _, words := range []int{-1, 0, 1, 64, 100, 127, api.MaxWords + 1, 1 << 40, math.MinInt, math.MaxInt} {
		for _, fuel := range []int{-1, 0, 1, enough, math.MaxInt} {
			o, d := vm.Run(p, api.Config{Words: words, Fuel: fuel, Force: []int{1}})
			if o != outOfMemory || d != (vm.Told{}) {
				t.Errorf("%d words: %+v %+v", words, o, d)
			}
		}
	}
	for _, words := range []int{128, 129, 191, 192, api.MaxWords - 1, api.MaxWords} {
		o, d := vm.Run(p, api.Config{Words: words, Fuel: enough})
		if o != (api.Outcome{State: api.Exited, Output: "a"}) || d != (vm.Told{Points: 1}) {
			t.Errorf("%d words: %+v %+v", words, o, d)
		}
	}
}

func TestNoFuel(t *testing.T) {
	p := compiled(t, source(`x := 1; f := func() { x++ }; f(); print(x)`, ""))
	for _, fuel := range []int{0, -1, -1000, math.MinInt} {
		for _, words := range []int{128, 1024, api.MaxWords} {
			if o, d := vm.Run(p, api.Config{Words: words, Fuel: fuel, Force: []int{0, 1, 2}}); o != (api.Outcome{}) || d != (vm.Told{}) {
				t.Errorf("fuel %d: %+v %+v", fuel, o, d)
			}
		}
	}
}

// TestForce asks at which safepoints there are collections: 10 of them are reached.
func TestForce(t *testing.T) {
	p := compiled(t, source(`for i := 0; i < 8; i++ { }; print("ok")`, ""))
	for _, x := range []struct {
		force     []int
		collected int
	}{
		{nil, 0}, {[]int{}, 0}, {[]int{1}, 1}, {[]int{10}, 1}, {[]int{11}, 0}, {[]int{0}, 0}, {[]int{-3}, 0}, {[]int{math.MaxInt}, 0}, {[]int{math.MinInt}, 0},
		{upTo(10), 10}, {upTo(100), 10}, {[]int{2, 4, 6, 8, 10, 12}, 5}, {[]int{1, 10}, 2}, {[]int{0, 1}, 1}, {[]int{-1, 0, 1, 2}, 2},
		{[]int{3, 3}, 1}, {[]int{3, 3, 3, 4}, 2}, {[]int{3, 2}, 1}, {[]int{3, 2, 4}, 2}, {[]int{3, 1, 2, 4, 4, 3, 5}, 3}, {[]int{5, 2, 3}, 1}, {[]int{5, 2, 3, 6}, 2},
		{[]int{5, 4, 3, 2, 1}, 1}, {[]int{11, 1, 2, 3}, 0}, {[]int{math.MaxInt, 1, 2, 3}, 0}, {[]int{1, 0, 2, -1, 3}, 3}, {[]int{-5, -7, 2}, 1}, {[]int{4, math.MinInt, 5}, 2},
	} {
		kept := append(slices.Clone(x.force), 77)
		force := kept[:len(x.force)]
		o, d := vm.Run(p, api.Config{Words: 128, Fuel: enough, Force: force})
		if o != (api.Outcome{State: api.Exited, Output: "ok"}) || d != (vm.Told{Collected: x.collected, Points: 10}) {
			t.Errorf("%v: %+v %+v", x.force, o, d)
		}
		if !slices.Equal(kept[:len(kept)-1], x.force) || kept[len(kept)-1] != 77 {
			t.Errorf("%v: became %v", x.force, kept)
		}
	}
}

// TestWhatIsHandedIn asks that it stays as it is, and that a run can be run again.
func TestWhatIsHandedIn(t *testing.T) {
	src := source(`c := make(chan string, 1); go func() { c <- "a" + "b"; for i := 0; i < 9; i++ { print(i) }; panic("p") }(); print(<-c); <-c`, "")
	p, same := compiled(t, src), compiled(t, src)
	script, force := []int{1, 1, 3, 0, -2, 5}, []int{1, 3, 2, 4}
	c := api.Config{Script: script, Force: force, Words: 512, Fuel: enough}
	o, d := vm.Run(p, c)
	again, dAgain := vm.Run(p, c)
	if o != again || d != dAgain || o.State != api.Fatal || !strings.Contains(o.Output, "ab") {
		t.Errorf("%+v %+v, then %+v %+v", o, d, again, dAgain)
	}
	if !slices.Equal(code.Encode(p), code.Encode(same)) || !slices.Equal(script, []int{1, 1, 3, 0, -2, 5}) || !slices.Equal(force, []int{1, 3, 2, 4}) {
		t.Error("something was changed")
	}
}
