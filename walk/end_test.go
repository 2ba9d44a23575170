package walk_test

import (
	"fmt"
	"math"
	"strings"
	"testing"

	"derrick/api"
	"derrick/walk"
)

func TestStackOverflow(t *testing.T) {
	const overflow = "fatal: stack overflow"
	runAll(t, `
func down(n int) int { if n == 0 { return 0 }; return 1 + down(n-1) }
func last(n int) { if n == 0 { defer func() { print("d") }(); print("l"); return }; last(n-1) }
func fail(n int) { if n == 0 { defer func() { print("d", recover()) }(); panic("p") }; fail(n-1) }
func none(n int) { if n == 0 { var f func(); f() }; none(n-1) }
func gone(n int) { if n == 0 { go down(58); <-make(chan int) }; gone(n-1) }
`, []row{
		{main: `print(down(58))`, output: "58"},
		{main: `print("a"); print(down(59))`, output: "a", why: overflow},
		{main: `print(down(1000))`, why: overflow},
		{main: `for i := 0; i < 100; i++ { down(58) }; print("ok")`, output: "ok"},
		{main: `last(57)`, output: "ld"},
		{main: `last(58)`, output: "l", why: overflow},
		{main: `fail(57)`, output: "dp"},
		{main: `fail(58)`, why: overflow},
		{main: `defer func() { print("no", recover()) }(); down(59)`, why: overflow},
		{main: `defer func() { print("r", recover()) }(); none(58)`, output: "rcall of nil function"},
		{main: `gone(57)`, why: asleep},
		{main: `go down(59); <-make(chan int)`, why: asleep},
		{main: `go down(60); <-make(chan int)`, why: overflow},
		{main: `defer func() { down(57); print("a"); down(58) }()`, output: "a", why: overflow},
		{main: `var f func(int); f = func(n int) { if n > 0 { f(n-1) } }; f(58); print("a"); f(59)`, output: "a", why: overflow},
	})
}

func TestDeferredCallsUnderWay(t *testing.T) {
	// A function is under way while its deferred calls are made: main, then two for each round.
	runAll(t, "", []row{
		{main: `var f func(int); f = func(n int) { defer func() { if n > 0 { f(n-1) } }() }; f(28); print("ok")`, output: "ok"},
		{main: `var f func(int); f = func(n int) { defer func() { if n > 0 { f(n-1) } }() }; f(29); print("no")`, why: "fatal: stack overflow"},
	})
}

func TestTooManyGoroutines(t *testing.T) {
	const tooMany = "fatal: too many goroutines"
	runAll(t, `
var c chan int
func wait(n int) { for i := 0; i < n; i++ { go func() { <-c; print("w") }() } }
`, []row{
		{main: `wait(63); print("ok")`, output: "ok"},
		{main: `print("a"); wait(64); print("no")`, output: "a", why: tooMany},
		{main: `defer func() { print("no") }(); wait(64)`, why: tooMany},
		{main: `wait(63); var f func(); f = nil; defer func() { print(recover()) }(); go f()`, output: "call of nil function"},
		{main: `c = make(chan int); wait(63); c <- 1; print("a"); wait(1); print("b"); wait(1)`, output: "wab", why: tooMany},
		{main: `d := make(chan int); for i := 0; i < 300; i++ { go func() { d <- i }(); <-d }; wait(63); print("ok")`, output: "ok"},
		{main: `go wait(62); <-make(chan int)`, why: asleep},
		{main: `go wait(63); <-make(chan int)`, why: tooMany},
	})
}

// TestGoroutinesThatAreOver asks that they don't count, but until then they do.
func TestGoroutinesThatAreOver(t *testing.T) {
	runAll(t, `
func start(n int) { for i := 0; i < n; i++ { go func() { }() } }
func settle() { c := make(chan int); go func() { c <- 1 }(); <-c }
`, []row{
		{main: `start(62); settle(); print("ok")`, output: "ok"},
		{main: `start(63); settle()`, why: "fatal: too many goroutines"},
		{main: `for i := 0; i < 5; i++ { start(62); settle() }; start(63); print("ok")`, output: "ok"},
		{main: `for i := 0; i < 5; i++ { start(62); settle() }; print("a"); start(64)`, output: "a", why: "fatal: too many goroutines"},
	})
}

func TestTooMuchOutput(t *testing.T) {
	const tooMuch = "fatal: too much output"
	a := strings.Repeat("a", 16384)
	all := strings.Repeat(a, 4)
	runAll(t, long+"func most(less int) { s := long(); print(s, s, s, s[less:]) }\n", []row{
		{main: `most(0); print("")`, output: all},
		{main: `most(0); print(""); print("b")`, output: all, why: tooMuch},
		{main: `most(0); print(0)`, output: all, why: tooMuch},
		{main: `most(0); print(true)`, output: all, why: tooMuch},
		{main: `most(1); print("b", "", "c"); print("no")`, output: all[1:] + "b", why: tooMuch},
		{main: `most(1); print("bc", "d"); print("no")`, output: all[1:], why: tooMuch},
		{main: `most(2); print("b", "cd", "e")`, output: all[2:] + "b", why: tooMuch},
		{main: `most(4); print(true)`, output: all[4:] + "true"},
		{main: `most(4); print(false)`, output: all[4:], why: tooMuch},
		{main: `most(5); print(false)`, output: all[5:] + "false"},
		{main: `most(3); print(-10)`, output: all[3:] + "-10"},
		{main: `most(2); print(-10)`, output: all[2:], why: tooMuch},
		{main: `most(0); defer func() { print(recover()) }(); panic("")`, output: all},
		{main: `defer func() { print("no") }(); most(0); print(1)`, output: all, why: tooMuch},
		{main: `for { print("ab") }`, output: strings.Repeat("ab", 32768), why: tooMuch},
		{main: `for { print("abc") }`, output: strings.Repeat("abc", 21845), why: tooMuch},
	})
}

func TestTheOtherEnds(t *testing.T) {
	runAll(t, "", []row{
		{main: ``, output: ""},
		{main: `return`, output: ""},
		{main: `print("a"); func() { return }(); print("b"); return; print("c")`, output: "ab"},
		{main: `if x < 3 { x++; main(); print(x) }`, file: "var x int", output: "333"},
		{main: `if x < 1 { x++; go main(); for i := 0; i < 3; i++ { print(i) } } else { print("g") }`, file: "var x int", script: []int{0, 1}, output: "g012"},
		{main: `go func() { print("g"); panic("x") }(); print("m")`, output: "m"},
		{main: `go func() { print("g"); panic("x") }(); print("m")`, script: []int{0, 1}, output: "g", why: "panic: x"},
		{main: `defer func() { <-make(chan int) }(); print("m")`, output: "m", why: asleep},
		{main: `defer func() { c := make(chan int); go func() { print("g"); c <- 1 }(); print(<-c) }(); print("m")`, output: "mg1"},
		{main: `go func() { select { } }(); go func() { <-make(chan int) }(); var c chan int; c <- 1`, why: asleep},
	})
}

// TestFuel asks of each fuel that what comes out is a beginning of the run, and no less than with less fuel.
func TestFuel(t *testing.T) {
	for _, src := range []string{
		`func main() { }`,
		`func main() { print(1, "b", true); print("d") }`,
		`func main() { for i := 0; i < 5; i++ { print(i); defer print2(i) } }
func print2(x int) { print("(", x, ")") }`,
		`func main() { c := make(chan int); go func() { for i := 0; i < 4; i++ { c <- i; print("s") }; close(c) }(); for i := 0; i < 5; i++ { print(<-c) }; panic("p") }`,
		`func main() { x := 0; f := func() { x++; print(x) }; for x < 6 { f() }; a := []int{1}; for len(a) < 9 { a = append(a, len(a)); print(a[len(a)-1]) }; select { } }`,
		`func f(n int) { print(n); f(n + 1) }
func main() { f(0) }`,
		`func main() { a := make([]int, 1024); print(len(a)); b := append(a, 1); print(len(b)) }`,
	} {
		_, p := compiled(t, src)
		for _, script := range [][]int{nil, {1, 3, 1, 1, 0, 5, 1, 1, 3, 1, 1, 1}} {
			whole, made, steps := readTree(unitOf(t, src), script, mostSteps)
			ended, output := 0, ""
			for fuel := -2; fuel < 2000; fuel++ {
				o, m := walk.Run(p, script, fuel)
				if len(o.Output) < len(output) || !strings.HasPrefix(whole.Output, o.Output) || fuel <= 0 && (o != api.Outcome{} || m != walk.Made{}) {
					t.Fatalf("%s\nfuel %d: %+v %+v", src, fuel, o, m)
				}
				output = o.Output
				switch {
				case o == whole && m == made:
					ended++
				case ended > 0 || o.State != api.Running || o.Code != 0 || o.Why != "" || m != walk.Made{}:
					t.Fatalf("%s\nfuel %d: %+v %+v", src, fuel, o, m)
				}
			}
			if ended == 0 {
				t.Errorf("%s: ended with %d fuels", src, ended)
			}
			for _, fuel := range []int{1000 * steps, math.MaxInt, math.MaxInt32} {
				if o, m := walk.Run(p, script, fuel); o != whole || m != made {
					t.Errorf("%s\nfuel %d: %+v %+v", src, fuel, o, m)
				}
			}
			for _, fuel := range []int{0, -1, math.MinInt} {
				if o, m := walk.Run(p, script, fuel); (o != api.Outcome{} || m != walk.Made{}) {
					t.Errorf("%s\nfuel %d: %+v %+v", src, fuel, o, m)
				}
			}
		}
	}
}

func unitOf(t *testing.T, src string) api.Unit {
	t.Helper()
	u, _ := compiled(t, src)
	return u
}

// TestRunsWithoutAnEnd asks that they stop when the fuel is used up, with nothing told but their output.
func TestRunsWithoutAnEnd(t *testing.T) {
	for _, r := range []row{
		{main: `for { }`},
		{main: `print("a"); for { x := 1; f := func() { x++ }; f() }`, output: "a"},
		{main: `a := []int{1}; p := &T{}; for { print("b"); p = &T{p: p}; a = append(a[:1], 2); for { c := make(chan int); go func() { c <- 1 }(); <-c } }`, output: "b"},
		{main: `for { defer func() { }() }`},
		{main: `for { func() { defer func() { recover() }(); panic("x") }() }`},
		{main: `c := make(chan int); go func() { for { c <- 1 } }(); print("c"); for { <-c }`, output: "c"},
		{main: `for { select { default: } }`},
		{main: `s := ""; for { s += "abcdefgh"; if len(s) > 16000 { s = "" } }`},
	} {
		r.file = "type T struct { p *T; }\n"
		_, p := compiled(t, r.source())
		for _, fuel := range []int{1000, 54321, 300000} {
			if o, m := walk.Run(p, []int{0, 1, 1, 2, 3, 4, 5, -6}, fuel); o != (api.Outcome{Output: r.output}) || m != (walk.Made{}) {
				t.Errorf("%s\n%+v %+v", r.source(), o, m)
			}
		}
	}
}

// TestFuelForGreatThings has few steps for all that they make: a thousand for each is enough nevertheless.
func TestFuelForGreatThings(t *testing.T) {
	var params, comms, uses []string
	for k := range 150 {
		params = append(params, fmt.Sprintf("v%d := %d", k, k))
		uses = append(uses, fmt.Sprintf("v%d", k))
		comms = append(comms, "case <-c:")
	}
	for _, src := range []string{
		full + `func main() { a := full(8192); for i := 0; i < 50; i++ { append2(append(a, 1)) } }
func append2(a []int) { }`,
		long + `func main() { s := long()[1:]; for i := 0; i < 200; i++ { t := s + "a"; t = "" } }`,
		`func main() { for i := 0; i < 300; i++ { a := make([]int, 1024); a = nil } }`,
		`func main() { ` + strings.Join(params, "; ") + `; f := func() int { return ` + strings.Join(uses, " + ") + ` }; for i := 0; i < 50; i++ { print(f()); f = func() int { return ` + strings.Join(uses, " - ") + ` } } }`,
		`func main() { c := make(chan int); for i := 0; i < 50; i++ { select { ` + strings.Join(comms, "\n") + `
default: } } }`,
	} {
		if o, _ := outcome(t, src, nil); o.State != api.Exited {
			t.Errorf("%.300s: %+v", src, short(o))
		}
	}
}

func TestMade(t *testing.T) {
	const file = `
type T struct {
	n int
	p *T
}
var g int
var gf func()
func add(x int) func() int { return func() int { x++; return x } }
func two(x int, y int) int { return func() int { return y }() + x }
`
	for _, x := range []struct {
		main string
		want walk.Made
	}{
		{``, walk.Made{}},
		{`x := 1; y := "a"; y += "b"; y = y[1:]; print(x, y); g++; f := add; print(f == nil)`, walk.Made{}},
		{`x := 1; f := func() { x++ }; f(); f()`, walk.Made{Boxes: 1, Closures: 1}},
		{`f := func() { g++ }; f(); f()`, walk.Made{Closures: 1}},
		{`for i := 0; i < 3; i++ { x := i; f := func() { x++ }; f() }`, walk.Made{Boxes: 3, Closures: 3}},
		{`for i := 0; i < 3; i++ { f := func() { i++; i-- }; f() }`, walk.Made{Boxes: 1, Closures: 3}},
		{`for i := 0; i < 3; i++ { var x int; var y string; func() { x++ }() }`, walk.Made{Boxes: 3, Closures: 3}},
		{`a := add(1); a(); a(); b := add(2); b()`, walk.Made{Boxes: 2, Closures: 2}},
		{`two(1, 2); two(3, 4)`, walk.Made{Boxes: 2, Closures: 2}},
		{`x := 1; y := 2; func() { func() { x = y }() }()`, walk.Made{Boxes: 2, Closures: 2}},
		{`x := 1; if g > 0 { y := 2; func() { x = y }() }`, walk.Made{Boxes: 1}},
		{`return; x := 1; func() { x++ }()`, walk.Made{}},
		{`c := make(chan int, 3); c <- 1; c <- 2; for i := 0; i < 2; i++ { select { case x := <-c: func() { x++ }() } }`, walk.Made{Boxes: 2, Closures: 2, Chans: 1}},
		{`f := func() { }; f = func() { }; gf = f; go f(); defer gf(); f()`, walk.Made{Closures: 2}},
		{`p := new(T); q := &T{p: p, n: 2}; p = q.p; print(p.n, new(T) == p)`, walk.Made{Objects: 3}},
		{`p := &T{p: &T{p: &T{}}}; p = p.p.p`, walk.Made{Objects: 3}},
		{`p := &T{n: 1 / g}; p = nil`, walk.Made{}},
		{`p := &T{p: new(T), n: 1 / g}; p = nil`, walk.Made{Objects: 1}},
		{`a := []int{1, 2}; b := make([]int, 3); c := []int{}; d := make([]int, 0); print(len(a), len(b), len(c), len(d))`, walk.Made{Arrays: 4}},
		{`a := make([]int, 3); b := a[1:]; b = append(a[:1], 5, 6); b = append(b[:0]); b = append(b)`, walk.Made{Arrays: 1}},
		{`a := make([]int, 3); b := append(a, 1); b = append(b, 2, 3); b = append(b, 4)`, walk.Made{Arrays: 3}},
		{`var a []int; a = append(a); a = a[:0]; a = append(a, 1)`, walk.Made{Arrays: 1}},
		{`var a []int; for i := 0; i < 100; i++ { a = append(a, i) }`, walk.Made{Arrays: 8}},
		{`a := [][]int{[]int{1}, nil, []int{}}; a[1] = a[0]`, walk.Made{Arrays: 3}},
		{`a := make([]int, 1025); a = nil`, walk.Made{}},
		{`c := make(chan int, 1025); c = nil`, walk.Made{}},
		{`c := make(chan int); d := make(chan string, 5); var e chan int; e = c; print(e == c, len(d))`, walk.Made{Chans: 2}},
		{`for i := 0; i < 4; i++ { go func() { <-make(chan int) }() }; <-make(chan int)`, walk.Made{Closures: 4, Chans: 5}},
		{`for i := 0; i < 4; i++ { go func() { <-make(chan int) }() }`, walk.Made{Closures: 4}},
		{`x := 1; defer func() { x++; recover() }(); y := 2; defer func() { y++ }(); panic("a"); z := 3; func() { z++ }()`, walk.Made{Boxes: 2, Closures: 2}},
		{`a := []*T{new(T), nil, &T{}}; f := []func(){func() { }, nil}; c := []chan int{make(chan int)}; print(len(a), len(f), len(c))`, walk.Made{Objects: 2, Closures: 1, Chans: 1, Arrays: 3}},
		{`a := []int{1, 2, 3 / g}; print(len(a))`, walk.Made{}},
	} {
		if _, got := outcome(t, "func main() { "+x.main+" }\n"+file, nil); got != x.want {
			t.Errorf("%s\n%+v, not %+v", x.main, got, x.want)
		}
	}
}

// TestMadeWhereAFunctionWaits ends runs while another goroutine's function waits at its beginning: its params were made when it was called.
func TestMadeWhereAFunctionWaits(t *testing.T) {
	const file = `
func f(x int) { func() { print(x) }() }
func g() { f(1) }
func h() { defer f(1) }
func two(x int, y string, z []int) { func() { print(x, len(z)) }(); print(y) }
func plain(x int) { print(x) }
`
	for _, x := range []struct {
		main   string
		script []int
		output string
		want   walk.Made
	}{
		{`go g(); print("m")`, nil, "m", walk.Made{}},
		{`go g(); print("m")`, []int{0, 1, 1}, "m", walk.Made{}},
		{`go g(); print("m")`, []int{0, 1, 0, 1}, "m", walk.Made{Boxes: 1}},
		{`go g(); print("m")`, []int{0, 1, 0, 0}, "1m", walk.Made{Boxes: 1, Closures: 1}},
		{`go g(); print("m")`, []int{0, 1, 0, 0, 1}, "m", walk.Made{Boxes: 1, Closures: 1}},
		{`go f(1); print("m")`, nil, "m", walk.Made{}},
		{`go f(1); print("m")`, []int{0, 1, 1}, "m", walk.Made{Boxes: 1}},
		{`go f(1); go f(2); print("m")`, []int{0, 1, 1, 1, 1, 1}, "m", walk.Made{Boxes: 2, Closures: 1}},
		{`go f(1); go f(2); print("m")`, []int{0, 1, 1, 1, 1, 0}, "2m", walk.Made{Boxes: 2, Closures: 2}},
		{`go f(1); go f(2); print("m")`, []int{0, 0, 1, 1, 1}, "m", walk.Made{Boxes: 2}},
		{`go h(); print("m")`, []int{0, 1, 1}, "m", walk.Made{}},
		{`go h(); print("m")`, []int{0, 1, 0, 1}, "m", walk.Made{Boxes: 1}},
		{`go two(1, "a", nil); print("m")`, []int{0, 1, 1}, "m", walk.Made{Boxes: 2}},
		{`go two(1, "a", []int{1}); print("m")`, []int{0, 1, 0, 0}, "11am", walk.Made{Boxes: 2, Closures: 1, Arrays: 1}},
		{`go plain(1); print("m")`, []int{0, 1, 1}, "m", walk.Made{}},
		{`go func() { func(y int) { func() { print(y) }() }(3) }(); print("m")`, []int{0, 1, 0, 1}, "m", walk.Made{Boxes: 1, Closures: 2}},
		{`x := 5; go func(y int) { x = y; func() { print(y) }() }(3); print("m", x)`, []int{0, 1, 1}, "m5", walk.Made{Boxes: 2, Closures: 1}},
	} {
		o, made := outcome(t, "func main() { "+x.main+" }\n"+file, x.script)
		if o != (api.Outcome{State: api.Exited, Output: x.output}) || made != x.want {
			t.Errorf("%s %v\n%+v %+v, not %q %+v", x.main, x.script, o, made, x.output, x.want)
		}
	}
	fatal := api.Outcome{State: api.Fatal, Code: 2, Output: "m", Why: "panic: end"}
	if o, made := outcome(t, `func main() { go g(); print("m"); panic("end") }`+file, []int{0, 1, 0, 1}); o != fatal || made != (walk.Made{Boxes: 1}) {
		t.Errorf("%+v %+v", o, made)
	}
}

// TestACallThatIsNotMade has as many boxed params as functions that could be called.
func TestACallThatIsNotMade(t *testing.T) {
	o, made := outcome(t, `func f(x int) { defer func() { x++ }(); f(x) }
func main() { f(1) }`, nil)
	if o != (api.Outcome{State: api.Fatal, Code: 2, Why: "fatal: stack overflow"}) || made != (walk.Made{Boxes: api.MaxDepth - 1, Closures: api.MaxDepth - 1}) {
		t.Errorf("%+v %+v", o, made)
	}
}
