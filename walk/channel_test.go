package walk_test

import (
	"math"
	"math/rand"
	"testing"
)

const asleep = "fatal: all goroutines are asleep"

// TestSafepoints asks where a number is taken, and who runs then.
func TestSafepoints(t *testing.T) {
	const main, file = `go f(); print("m"); for i := 0; i < 1; i++ { print("r") }`, `func f() { print("f") }`
	for _, x := range []struct {
		output string
		script []int
	}{
		{"mr", nil},
		{"fmr", []int{0, 1}},
		{"mfr", []int{0, 0, 1}},
		{"mrf", []int{0, 0, 0, 1}},
		{"mr", []int{0, 0, 0, 0, 1}},
		{"fmr", []int{1, 1}}, // nobody else is there at first, but the number is taken
		{"mr", []int{1}},
		{"mr", []int{0, 1, 1}}, // f goes on when main is over
		{"mfr", []int{0, 1, 1, 1}},
		{"mr", []int{0, 3}}, // the place 1 is main's own
		{"fmr", []int{0, 5}},
		{"mr", []int{0, 7}},
		{"mr", []int{0, 2}},
		{"mr", []int{0, -1}},
		{"mr", []int{-1, math.MinInt, -3}},
		{"mr", []int{0, math.MaxInt}}, // 2^62 - 1 is odd
		{"fmr", []int{0, math.MaxInt - 2}},
		{"mr", []int{0, math.MaxInt - 1}},
	} {
		row{main: main, file: file, script: x.script, output: x.output}.run(t)
	}
}

// TestWhoRunsNext asks for the numbers that are taken when a goroutine waits or ends.
func TestWhoRunsNext(t *testing.T) {
	const main, file = `go f(1); go f(2); go f(3); <-make(chan int)`, `func f(x int) { print(x) }`
	for _, x := range []struct {
		output string
		script []int
	}{
		{"123", nil},
		{"213", []int{0, 0, 0, 0, 1}},
		{"312", []int{0, 0, 0, 0, 2}},
		{"123", []int{0, 0, 0, 0, 3}},
		{"312", []int{0, 0, 0, 0, 5}},
		{"321", []int{0, 0, 0, 0, 2, 0, 1}},
		{"132", []int{0, 0, 0, 0, 0, 0, 1}},
		{"123", []int{0, 0, 0, 0, 0, 0, 0, 0, 1}},
		{"123", []int{0, 0, 0, 0, -1, -1, -1}},
		{"231", []int{0, 0, 0, 0, 0, 1}},
		{"213", []int{0, 0, 0, 0, math.MaxInt}}, // 2^63 - 1 is 1 modulo 3
		{"123", []int{0, 1}},
		{"213", []int{0, 0, 3, 0, 0, 0}},
	} {
		row{main: main, file: file, script: x.script, output: x.output, why: asleep}.run(t)
	}
}

func TestChannels(t *testing.T) {
	runAll(t, `
func s(c chan int, x int) { c <- x; print("s", x) }
func r(c chan int, x int) { print("w", x); print(<-c, "r", x, " ") }
`, []row{
		{main: `c := make(chan int); go func() { print("r"); print(<-c); print("R") }(); print("s"); c <- 5; print("S")`, output: "sr5RS"},
		{main: `c := make(chan int); go func() { print("s"); c <- 5; print("S") }(); print("r"); print(<-c); print("R")`, output: "rsS5R"},
		{main: `c := make(chan int, 2); c <- 1; c <- 2; print(len(c), cap(c)); print(<-c, len(c)); c <- 3; print(<-c, <-c, len(c))`, output: "2211230"},
		{main: `c := make(chan int, 1); go s(c, 1); go s(c, 2); go s(c, 3); d := make(chan int); go func() { d <- 0 }(); <-d; print(len(c)); print(<-c, len(c)); print(<-c, len(c)); print(<-c, len(c))`, output: "s11112130"},
		{main: `c := make(chan int, 1); go s(c, 1); go s(c, 2); go s(c, 3); d := make(chan int); go func() { d <- 0 }(); <-d; print(<-c, <-c); <-d`, output: "s112s2s3", why: asleep},
		{main: `c := make(chan int); go s(c, 1); go s(c, 2); go s(c, 3); print(<-c, <-c, <-c); <-make(chan int)`, output: "s1123s2s3", why: asleep},
		{main: `c := make(chan int); go r(c, 1); go r(c, 2); go r(c, 3); d := make(chan int); go func() { d <- 0 }(); <-d; c <- 7; c <- 8; c <- 9; print("m"); <-d`, output: "w1w2w3m7r1 8r2 9r3 ", why: asleep},
		{main: `c := make(chan int); go r(c, 1); go r(c, 2); go r(c, 3); d := make(chan int); go func() { close(c); print("c"); <-d }(); <-d`, output: "w1w2w3c0r1 0r2 0r3 ", why: asleep},
		{main: `c := make(chan int); for i := 0; i < 3; i++ { go func(x int) { defer func() { print(x, recover(), " ") }(); c <- x; print("no") }(i) }; d := make(chan int); go func() { close(c); print("c"); <-d }(); <-d`, output: "c0send on closed channel 1send on closed channel 2send on closed channel ", why: asleep},
		{main: `c := make(chan int, 1); c <- 5; go s(c, 1); d := make(chan int); go func() { close(c); print("c"); d <- 1 }(); <-d; print("no")`, output: "c", why: "panic: send on closed channel"},
		{main: `c := make(chan int, 3); c <- 1; c <- 2; close(c); print(len(c), cap(c)); print(<-c, <-c, <-c, <-c, len(c))`, output: "2312000"},
		{main: `c := make(chan string, 1); close(c); print(<-c == ""); d := make(chan *int0, 1); close(d); print(<-d == nil); e := make(chan bool); close(e); print(<-e); f := make(chan []int); close(f); print(len(<-f)); h := make(chan func()); close(h); print(<-h == nil)`, file: "type int0 struct { }", output: "truetruefalse0true"},
		{main: `c := make(chan int, 1); close(c); c <- 1`, why: "panic: send on closed channel"},
		{main: `c := make(chan int); close(c); print(<-c); close(c)`, output: "0", why: "panic: close of closed channel"},
		{main: `var c chan int; close(c)`, why: "panic: close of nil channel"},
		{main: `var c chan int; go func() { print("g"); c <- 1; print("no") }(); go func() { print("h"); <-c; print("no") }(); <-make(chan int)`, output: "gh", why: asleep},
		{main: `var c chan int; c <- 1`, why: asleep},
		{main: `var c chan int; print(<-c)`, why: asleep},
		{main: `c := make(chan int); c <- 1`, why: asleep},
		{main: `c := make(chan int, 1); c <- 1; print("a"); c <- 1`, output: "a", why: asleep},
		{main: `c := make(chan int); go func() { <-c }(); go func() { print("g") }(); <-c`, output: "g", why: asleep},
		{main: `c := make(chan int); go func() { c <- 1; print("no") }(); go func() { for { } }(); print("m")`, output: "m"},
		{main: `c := make(chan chan int, 1); d := make(chan int); c <- d; go func() { (<-c) <- 6 }(); print(<-d)`, output: "6"},
		{main: `c := make(chan int); go func() { for i := 0; i < 5; i++ { c <- i }; close(c) }(); x := 0; for i := 0; i < 7; i++ { x = x*10 + <-c }; print(x)`, output: "123400"},
		{main: `c := make(chan int, 2); go func() { for i := 1; i < 6; i++ { c <- i; print("+", i) }; close(c) }(); for { x := <-c; if x == 0 { break }; print("-", x) }`, output: "+1+2+3-1-2-3-4+4+5-5"},
		{main: `c := make(chan int, 1024); for i := 0; i < 1024; i++ { c <- i }; print(len(c)); for i := 0; i < 512; i++ { <-c }; c <- 7; print(len(c), <-c); c <- 1; go func() { print("w") }(); for len(c) < 1024 { c <- 0 }; c <- 1`, output: "1024513512w", why: asleep},
		{main: `c := make(chan *T, 1); p := &T{n: 1}; c <- p; p.n = 2; q := <-c; print(q.n, p == q); c <- nil; print(<-c == nil)`, file: "type T struct { n int; }", output: "2truetrue"},
		{main: `c := make(chan int); for i := 0; i < 2; i++ { go func(x int) { for { print(x, ":", <-c, " ") } }(i) }; for i := 0; i < 6; i++ { c <- i }; <-make(chan int)`, output: "0:0 0:1 0:3 1:2 0:4 1:5 ", why: asleep},
		{main: `c := make(chan int); for i := 1; i < 3; i++ { go func(x int) { for k := 0; k < 3; k++ { c <- x*10 + k } }(i) }; for i := 0; i < 6; i++ { print(<-c, " ") }; <-make(chan int)`, output: "10 11 20 12 21 22 ", why: asleep},
		{main: `x := 0; c := make(chan bool); for i := 0; i < 3; i++ { go func() { x += 10; c <- true }() }; for i := 0; i < 3; i++ { <-c; print(x, " ") }`, output: "30 30 30 "},
		{main: `x := 1; go func(y int) { print(x, y) }(x); x = 2; <-make(chan int)`, output: "21", why: asleep},
		{main: `go func() int { print("g"); return 4 }(); main2()`, file: "func main2() { <-make(chan int) }", output: "g", why: asleep},
	})
}

func TestSelect(t *testing.T) {
	runAll(t, "", []row{
		{main: `select { default: print("d") }; c := make(chan int); select { case c <- 1: print("s"); case <-c: print("r"); default: print("d") }`, output: "dd"},
		{main: `var c chan int; select { case c <- 1: print("s"); case <-c: print("r"); default: print("d") }`, output: "d"},
		{main: `c := make(chan int, 1); for i := 0; i < 2; i++ { select { case c <- 7: print("s"); case x := <-c: print("r", x); default: print("d") } }`, output: "sr7"},
		{main: `c := make(chan int); close(c); select { case x := <-c: print("r", x); default: print("d") }; select { case c <- 1: print("no"); default: print("no") }`, output: "r0", why: "panic: send on closed channel"},
		{main: `select { }`, why: asleep},
		{main: `print("a"); var c chan int; select { case c <- 1: case <-c: }`, output: "a", why: asleep},
		{main: `go func() { print("g") }(); select { }`, output: "g", why: asleep},
		{main: `a := make(chan int); b := make(chan int); go func() { select { case x := <-a: print("a", x); case x := <-b: print("b", x) }; print("g") }(); select { case a <- 1: print("1"); default: print("no") }; select { case b <- 2: print("no"); default: print("left") }; <-make(chan int)`, script: []int{0, 1}, output: "1lefta1g", why: asleep},
		{main: `a := make(chan int); b := make(chan int); go func() { select { case x := <-a: print("a", x); case x := <-b: print("b", x) }; print("g") }(); b <- 2; select { case a <- 2: print("no"); default: print("left") }; <-a`, script: []int{0, 1}, output: "leftb2g", why: asleep},
		{main: `a := make(chan int); b := make(chan int); go func() { x := 5; select { case a <- x: print("a"); case b <- x + 1: print("b") }; print("g") }(); print(<-b); select { case x := <-a: print("no", x); default: print("left") }; <-a`, script: []int{0, 1}, output: "6leftbg", why: asleep},
		{main: `c := make(chan int); go func() { select { case x := <-c: print("x", x); case y := <-c: print("y", y) } }(); c <- 4; <-make(chan int)`, script: []int{0, 1}, output: "x4", why: asleep},
		{main: `c := make(chan int); go func() { select { case c <- 1: print("a"); case c <- 2: print("b") } }(); print(<-c); select { case x := <-c: print(x); default: print("left") }; <-c`, script: []int{0, 1}, output: "1lefta", why: asleep},
		{main: `c := make(chan int); go func() { select { case c <- 1: print("s"); case x := <-c: print("r", x) } }(); go func() { close(c) }(); <-make(chan int)`, output: "r0", why: asleep},
		{main: `c := make(chan int); d := make(chan int); go func() { defer func() { print(recover()) }(); select { case <-d: print("no"); case c <- 1: print("no") } }(); go func() { close(c) }(); <-make(chan int)`, output: "send on closed channel", why: asleep},
		{main: `c := make(chan int); d := make(chan int); go func() { select { case <-d: print("d"); case c <- 1: print("no") } }(); go func() { close(d); close(c) }(); <-make(chan int)`, output: "d", why: asleep},
		{main: `c := make(chan int); go func() { select { case c <- 1: print("s"); case x := <-c: print("r", x) } }(); c <- 3; <-make(chan int)`, script: []int{0, 1}, output: "r3", why: asleep},
		{main: `c := make(chan int); go func() { select { case c <- 1: print("s"); case x := <-c: print("r", x) } }(); print(<-c); <-make(chan int)`, script: []int{0, 1}, output: "1s", why: asleep},
		{main: `a := make(chan int); for i := 0; i < 3; i++ { select { case a <- i: case x := <-a: print(x); default: go func() { a <- 7 }() } }; print(<-a)`, output: "7"},
		{main: `q := make(chan bool); c := make(chan int); go func() { for i := 0; i < 3; i++ { print(<-c) }; q <- true }(); x := 1; for { select { case c <- x: x *= 2; case <-q: print("q", x); return } }`, output: "124q8"},
		{main: `c := make(chan int, 1); c <- 1; select { case c <- 2: print("no"); case x := <-c: x++; h := func() { x++ }; h(); print(x) }`, output: "3"},
		{main: `c := make(chan int); go func() { for { select { case x := <-c: if x == 2 { close(c); return }; print(x) } } }(); c <- 0; c <- 1; c <- 2; print(<-c)`, output: "010"},
	})
}

// TestLinesThatAreLeft has lines out of which one at the beginning, in the middle or at the end is served elsewhere.
func TestLinesThatAreLeft(t *testing.T) {
	const file = `
var a chan int
var b chan int
func take(x int) { print(x, "=", <-a, " ") }
func give(x int) { a <- x; print(x, " ") }
func both(x int) { select { case y := <-a: print(x, "=", y, " "); case y := <-b: print(x, "~", y, " ") } }
func either(x int) { select { case a <- x: print(x, " "); case y := <-b: print(x, "~", y, " ") } }
func settle() { c := make(chan int); go func() { c <- 1 }(); <-c }
`
	const begin = "a = make(chan int); b = make(chan int); "
	runAll(t, file, []row{
		{main: begin + `go both(1); go take(2); go take(3); settle(); b <- 7; a <- 8; a <- 9; select { case a <- 0: print("no"); default: }; settle()`, output: "1~7 2=8 3=9 "},
		{main: begin + `go take(1); go both(2); go take(3); settle(); b <- 7; a <- 8; a <- 9; select { case a <- 0: print("no"); default: }; settle()`, output: "2~7 1=8 3=9 "},
		{main: begin + `go take(1); go take(2); go both(3); settle(); b <- 7; go take(4); settle(); a <- 8; a <- 9; a <- 10; select { case a <- 0: print("no"); default: }; settle()`, output: "3~7 1=8 2=9 4=10 "},
		{main: begin + `go both(1); settle(); b <- 7; go take(2); settle(); a <- 8; settle()`, output: "1~7 2=8 "},
		{main: begin + `go either(1); go give(2); go give(3); settle(); b <- 7; print(<-a, <-a, ";"); select { case <-a: print("no"); default: }; settle()`, output: "23;1~7 2 3 "},
		{main: begin + `go give(1); go either(2); go give(3); settle(); b <- 7; print(<-a, <-a, ";"); select { case <-a: print("no"); default: }; settle()`, output: "13;2~7 1 3 "},
		{main: begin + `go give(1); go give(2); go either(3); settle(); b <- 7; go give(4); settle(); print(<-a, <-a, <-a, ";"); select { case <-a: print("no"); default: }; settle()`, output: "3~7 124;1 2 4 "},
		{main: begin + `go both(1); go both(2); go both(3); settle(); a <- 7; b <- 8; a <- 9; select { case b <- 0: print("no"); default: }; settle()`, output: "1=7 2~8 3=9 "},
		{main: begin + `go func() { both(1); take(1) }(); settle(); a <- 7; settle(); go func() { print("x=", <-b, " ") }(); settle(); a <- 8; select { case b <- 9: print("sent "); default: print("no") }; settle()`, output: "1=7 sent 1=8 x=9 "},
		{main: begin + `go take(1); go both(2); go take(3); settle(); close(b); close(a); settle()`, output: "2~0 1=0 3=0 "},
		{main: begin + `go take(1); go both(2); go take(3); settle(); close(a); b <- 1`, output: "1=0 2=0 3=0 ", why: asleep},
	})
}

// TestSelectAmongSeveral asks for the number that is taken, and when none is.
func TestSelectAmongSeveral(t *testing.T) {
	const two = `a := make(chan int, 1); b := make(chan int, 1); d := make(chan int); a <- 1; b <- 2; `
	for _, x := range []struct {
		main, output string
		script       []int
	}{
		{`select { case x := <-a: print("a", x); case x := <-b: print("b", x) }`, "a1", nil},
		{`select { case x := <-a: print("a", x); case x := <-b: print("b", x) }`, "a1", []int{1, 0}},
		{`select { case x := <-a: print("a", x); case x := <-b: print("b", x) }`, "b2", []int{0, 1}},
		{`select { case x := <-a: print("a", x); case x := <-b: print("b", x) }`, "a1", []int{0, 2}},
		{`select { case x := <-a: print("a", x); case x := <-b: print("b", x) }`, "b2", []int{0, math.MaxInt}},
		{`select { case x := <-a: print("a", x); case x := <-b: print("b", x) }`, "a1", []int{0, -1}},
		{`select { case x := <-a: print("a", x); default: print("d"); case x := <-b: print("b", x) }`, "b2", []int{0, 1}},
		{`select { case <-d: print("d"); case <-a: print("a"); case d <- 1: print("e"); case <-b: print("b") }`, "b", []int{0, 3}},
		{`select { case <-d: print("d"); case <-a: print("a"); case d <- 1: print("e"); case <-b: print("b") }`, "a", []int{0, 4}},
		{`close(d); <-a; select { case d <- 1: print("no"); case <-d: print("d"); case a <- 3: print("s") }; print(len(a))`, "s1", []int{0, 2}},
		{`close(d); <-a; select { case a <- 3: print("s"); case <-d: print("d"); case d <- 1: print("no") }; print(len(a))`, "d0", []int{0, 4}},
		{`select { case <-a: print("a"); case <-d: print("d") }; a <- 1; select { case <-a: print("a"); case <-b: print("b") }`, "ab", []int{0, 1}},
		{`select { case <-d: print("d"); default: print("e") }; select { case <-a: print("a"); case <-b: print("b") }`, "eb", []int{0, 1}},
		{`select { case x := <-a: print("x", x); case y := <-a: print("y", y) }`, "y1", []int{0, 1}},
		{`select { case x := <-a: print("x", x); case y := <-a: print("y", y) }; print(len(a), len(b))`, "x101", []int{0, 8}},
	} {
		row{main: two + x.main, output: x.output, script: x.script}.run(t)
	}
}

// TestSchedules runs sources that schedules take to many places.
func TestSchedules(t *testing.T) {
	for _, src := range []string{
		`func main() { q := make(chan int); for i := 0; i < 3; i++ { go func(x int) { for k := 0; k < 2; k++ { print(x); q <- x } }(i) }; for i := 0; i < 6; i++ { print(<-q) } }`,
		`var g int
func add(x int) { for i := 0; i < 3; i++ { y := g; g = y + x; print(g, " ") } }
func main() { go add(1); go add(10); add(100); for i := 0; i < 9; i++ { }; print(g) }`,
		`func main() { a := make(chan int, 1); b := make(chan int); go func() { for { select { case a <- 1: case x := <-b: print("b", x); case b <- 2: } } }(); for i := 0; i < 5; i++ { select { case x := <-a: print("a", x); case b <- i: case x := <-b: print("c", x); default: print("d") } } }`,
		`func main() { x := 0; done := make(chan bool); for i := 0; i < 2; i++ { go func() { for k := 0; k < 3; k++ { y := x; for z := 0; z < 1; z++ { }; x = y + 1; print(x) }; done <- true }() }; <-done; <-done; print("=", x) }`,
		`func main() { c := make(chan int); d := make(chan int, 2); for i := 0; i < 4; i++ { go func(x int) { defer func() { print("(", recover(), ")") }(); select { case c <- x: print("s", x); case y := <-c: print("r", y); case d <- x: print("d", x) } }(i) }; close(d); for i := 0; i < 8; i++ { select { case x := <-c: print("m", x); default: } }; close(c); for i := 0; i < 8; i++ { } }`,
	} {
		outputs := map[string]int{}
		for seed := range 80 {
			o, _ := outcome(t, src, schedule(rand.New(rand.NewSource(int64(seed)))))
			outputs[o.Output]++
		}
		if len(outputs) < 8 {
			t.Errorf("%s\n%v", src, outputs)
		}
	}
}
