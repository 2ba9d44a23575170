package vm_test

import (
	"fmt"
	"slices"
	"strings"
	"testing"

	"derrick/api"
	"derrick/vm"
)

// keepFile has churn, which makes things of all sizes where others were freed, and settle, which lets all others run.
const keepFile = `
type T struct { n int; s string; p *T; }
var g *T
var gs string
var gl []*T
var gc chan *T
var gf func() *T
func churn() { for i := 0; i < 4; i++ { a := []int{77, 77, 77}; p := &T{n: 77, s: "seventy" + "-seven"}; q := []*T{p, p}; c := make(chan int, 2); c <- 77; f := func() { a[0] = 78; q[1] = p }; f(); s := "ab" + "cd"; s = s[1:] } }
func churned() int { churn(); return 1 }
func settle() { c := make(chan int); go func() { c <- 1 }(); <-c; churn() }
func fresh(n int) *T { return &T{n: n, s: "<" + "abcdefghi"[:n] + ">"} }
func late(p *T) *T { churn(); return p }
func show(p *T) { print(p.n, p.s) }
func text() string { return "te" + "xt" }
`

// TestWhatIsKept keeps something in one place alone, lets all else be collected and its room be used, and asks for it.
func TestWhatIsKept(t *testing.T) {
	for _, x := range []struct{ main, output string }{
		{`g = fresh(1); churn(); show(g)`, "1<a>"},
		{`gs = text(); churn(); print(gs)`, "text"},
		{`gl = []*T{fresh(1), fresh(2)}; churn(); show(gl[1])`, "2<ab>"},
		{`gc = make(chan *T, 2); gc <- fresh(2); churn(); show(<-gc)`, "2<ab>"},
		{`p := fresh(3); gf = func() *T { return p }; p = nil; p = fresh(4); churn(); show(gf())`, "4<abcd>"},
		{`p := fresh(1); churn(); show(p)`, "1<a>"},
		{`s := text(); churn(); print(s); s += s; churn(); print(s); s = s[3:]; churn(); print(s)`, "texttexttextttext"},
		{`a := []string{text(), text() + "!"}; churn(); print(a[0], a[1])`, "texttext!"},
		{`a := make([]*T, 3); a[2] = fresh(2); churn(); show(a[2])`, "2<ab>"},
		{`a := []*T{fresh(1), fresh(2)}[:1]; churn(); show(a[:2][1])`, "2<ab>"},
		{`a := []*T{fresh(1), fresh(2), fresh(3)}[2:]; churn(); show(a[0])`, "3<abc>"},
		{`var a []*T; for i := 1; i < 9; i++ { a = append(a, fresh(i)); churn() }; show(a[0]); show(a[7])`, "1<a>8<abcdefgh>"},
		{`a := make([]*T, 9)[:0]; for i := 1; i < 9; i++ { a = append(a, fresh(i)); churn() }; show(a[0]); show(a[7])`, "1<a>8<abcdefgh>"},
		{`a := [][]*T{[]*T{fresh(1)}, nil}; a[1] = a[0]; a[0] = nil; churn(); show(a[1][0])`, "1<a>"},
		{`p := &T{p: &T{p: &T{p: fresh(5)}}}; churn(); show(p.p.p.p)`, "5<abcde>"},
		{`p := fresh(1); p.p = p; q := p.p; p = nil; churn(); show(q.p.p)`, "1<a>"},
		{`p := new(T); for i := 1; i < 9; i++ { p = &T{p: p, s: p.s + "x"}; churn() }; print(p.s, p.p.p.s)`, "xxxxxxxxxxxxxx"},
		{`keep(fresh(2), 5)`, "2<ab>5"},
		{`keep2(fresh(2))`, "2<ab>"},
		{`p := fresh(1); f := func() { show(p) }; churn(); f()`, "1<a>"},
		{`f := counter(text()); churn(); print(f()); churn(); print(f())`, "text!text!!"},
		{`var f func() *T; for i := 1; i < 4; i++ { p := fresh(i); h := f; f = func() *T { if h != nil { show(h()) }; return p }; churn() }; show(f())`, "1<a>2<ab>3<abc>"},
		{`f := func() func() *T { p := fresh(6); return func() *T { churn(); return p } }(); churn(); show(f())`, "6<abcdef>"},
		{`a := []func() *T{func() *T { return fresh(1) }, nil}; p := fresh(2); a[1] = func() *T { return p }; churn(); show(a[0]()); show(a[1]())`, "1<a>2<ab>"},
		{`defer show(fresh(3)); churn()`, "3<abc>"},
		{`defer show2(7, fresh(3), 8, text()); churn()`, "73<abc>8text"},
		{`for i := 1; i < 4; i++ { defer show(fresh(i)); churn() }`, "3<abc>2<ab>1<a>"},
		{`for i := 1; i < 4; i++ { p := fresh(i); defer func() { churn(); show(p) }(); churn() }`, "3<abc>2<ab>1<a>"},
		{`func() { defer show(fresh(2)); churn() }(); churn()`, "2<ab>"},
		{`show(answer()); print(answer2()); show(answer3()[0]); show(answer4()())`, "1<a>text2<ab>3<abc>"},
		{`show(<-answer5())`, "4<abcd>"},
		{`defer func() { churn(); print(recover()); churn() }(); panic(text())`, "text"},
		{`defer func() { s := recover(); churn(); print(s) }(); gl[0] = nil`, "index out of range"},
		{`p := fresh(1); func() { defer func() { recover(); churn() }(); q := fresh(2); show(q); g.n = 1 }(); show(p)`, "2<ab>1<a>"},
		{`c := make(chan *T, 3); c <- fresh(1); c <- fresh(2); <-c; c <- fresh(3); c <- fresh(4); churn(); show(<-c); show(<-c); show(<-c)`, "2<ab>3<abc>4<abcd>"},
		{`c := make(chan string, 1); c <- text(); churn(); print(<-c)`, "text"},
		{`c := make(chan chan *T, 1); c <- make(chan *T, 1); churn(); d := <-c; d <- fresh(1); c <- d; d = nil; churn(); show(<-<-c)`, "1<a>"},
		{`c := make(chan func() *T, 1); p := fresh(1); c <- func() *T { return p }; churn(); show((<-c)())`, "1<a>"},
		{`c := make(chan *T); go func() { c <- fresh(1) }(); settle(); show(<-c)`, "1<a>"},
		{`c := make(chan *T); for i := 1; i < 4; i++ { go func(x int) { c <- fresh(x) }(i) }; settle(); show(<-c); settle(); show(<-c); settle(); show(<-c)`, "1<a>2<ab>3<abc>"},
		{`c := make(chan *T, 1); for i := 1; i < 4; i++ { go func(x int) { c <- fresh(x) }(i) }; settle(); show(<-c); settle(); show(<-c); settle(); show(<-c)`, "1<a>2<ab>3<abc>"},
		{`c := make(chan string); go func() { c <- text() }(); settle(); print(<-c)`, "text"},
		{`c := make(chan *T); go func() { show(<-c); show(<-c) }(); settle(); c <- fresh(1); churn(); c <- fresh(2); settle()`, "1<a>2<ab>"},
		{`c := make(chan *T); d := make(chan string); go func() { select { case c <- fresh(1): case d <- text(): } }(); settle(); print(<-d)`, "text"},
		{`c := make(chan *T); d := make(chan string); go func() { select { case c <- fresh(1): case d <- text(): } }(); settle(); show(<-c)`, "1<a>"},
		{`c := make(chan *T); d := make(chan *T); go func() { select { case p := <-c: churn(); show(p); case p := <-d: churn(); show(p) } }(); settle(); d <- fresh(2); settle()`, "2<ab>"},
		{`c := make(chan *T); d := make(chan *T); go func() { select { case p := <-c: f := func() { show(p) }; churn(); f(); case p := <-d: show(p) } }(); settle(); c <- fresh(2); settle()`, "2<ab>"},
		{`c := make(chan int); go func() { p := fresh(1); <-c; show(p) }(); settle(); c <- 1; settle()`, "1<a>"},
		{`c := make(chan int); go func(p *T) { <-c; show(p) }(fresh(2)); settle(); close(c); settle()`, "2<ab>"},
		{`go show(fresh(1)); churn(); settle()`, "1<a>"},
		{`p := fresh(1); go func() { show(p) }(); churn(); settle()`, "1<a>"},
		{`c := make(chan *T); go func() { defer func() { print(recover()) }(); p := fresh(1); defer func() { show(p) }(); c <- fresh(2) }(); settle(); close(c); settle()`, "1<a>send on closed channel"},
		{`show2(churned(), fresh(1), churned(), text())`, "11<a>1text"},
		{`show2(1, late(fresh(1)), churned(), text() + late(fresh(2)).s)`, "11<a>1text<ab>"},
		{`print(text() + late(fresh(1)).s + text(), churned(), text())`, "text<a>text1text"},
		{`p := &T{p: fresh(1), s: text(), n: churned()}; print(p.s); show(p.p)`, "text1<a>"},
		{`a := []*T{fresh(1), late(fresh(2)), late(nil)}; show(a[0]); show(a[1])`, "1<a>2<ab>"},
		{`a := append([]*T{fresh(1)}, late(fresh(2)), late(nil)); show(a[0]); show(a[1])`, "1<a>2<ab>"},
		{`p := fresh(1); p.p = late(fresh(2)); show(p.p); late(p).p = late(fresh(3)); show(p.p); late(p).s += late(fresh(1)).s; show(p)`, "2<ab>3<abc>1<a><a>"},
		{`a := []string{text()}; a[churned()-1] += late(fresh(1)).s; print(a[0])`, "text<a>"},
		{`c := make(chan *T, 1); c <- late(fresh(1)); select { case late2(c) <- fresh(2): print("no"); case p := <-late2(c): show(p) }`, "1<a>"},
		{`print(fresh(1) == late(fresh(1)), fresh(1).s == late(fresh(1)).s, text() < late(fresh(1)).s)`, "falsetruefalse"},
		{`switch text() { case late(fresh(1)).s: print(1); case text() + "": churn(); print(2); case "no": print(3) }`, "2"},
		{`switch fresh(1).s { case late(nil2()).s: print(1); default: print(2) }`, "1"},
		{`p := fresh(1); q := p; for i := 0; i < 3; i++ { q = &T{p: q, n: i}; churn() }; print(q.p.p.p == p, q.n, q.p.n); show(p)`, "true211<a>"},
	} {
		src := source(x.main, keepFile+`
func keep(p *T, n int) { churn(); show(p); print(n) }
func keep2(p *T) { churn(); func() { churn(); late(nil) }(); show(p) }
func counter(s string) func() string { return func() string { s += "!"; churn(); return s } }
func show2(a int, p *T, b int, s string) { churn(); print(a); show(p); print(b, s) }
func answer() *T { defer churn(); return fresh(1) }
func answer2() string { defer churn(); defer func() { churn() }(); return text() }
func answer3() []*T { defer churn(); a := []*T{fresh(1), fresh(2)}; return a[1:] }
func answer4() func() *T { defer churn(); p := fresh(3); return func() *T { return p } }
func answer5() chan *T { defer churn(); c := make(chan *T, 1); c <- fresh(4); return c }
func late2(c chan *T) chan *T { churn(); return c }
func nil2() *T { churn(); return fresh(1) }
`)
		collects(t, src, api.Outcome{State: api.Exited, Output: x.output})
	}
}

// collects asks for an outcome, with collections at each safepoint, and where there is no room in heaps that are just great enough.
func collects(t *testing.T, src string, want api.Outcome) {
	t.Helper()
	p := compiled(t, src)
	least := tight(p, nil)
	for _, words := range []int{least, least + 64, least + 200, 1024, 4096, great} {
		for _, force := range [][]int{nil, everyPoint, {2, 5, 7, 11, 20, 21, 22, 40, 60, 61}} {
			o, d := vm.Run(p, api.Config{Words: words, Fuel: enough, Force: force})
			if force != nil && o.State == api.NoMemory && words < least+1000 {
				continue // what lives may be strewn otherwise
			}
			forced, _ := slices.BinarySearch(force, d.Points+1)
			if o != want || words == least && d.Collected == 0 || d.Collected < forced {
				t.Errorf("%s\n%d words, %d forced: %+v %+v, not %+v", src[strings.Index(src, "func main"):], words, len(force), o, d, want)
			}
		}
	}
}

// stands has what can be reached when a run stops, in the end or without one.
type stands struct {
	main    string
	reached int
}

const standFile = `
type T struct { n int; p *T; }
type E struct { }
var g *T
var gs string
var gn int
var gf func()
func drop(p *T) { }
func number(n int) int { return n }
func make1() *T { return new(T) }
func make2() []*T { return []*T{new(T), new(T)} }
func waste() { p := new(T); a := make([]*T, 3); a[0] = p; c := make(chan *T, 2); c <- p; s := "a" + "b"; f := func() { p.n++; s = "" }; f() }
func later() { defer drop(new(T)); p := new(T); defer func() { p.n++ }() }
func fail() { p := new(T); defer catch(p); g.n = 1 }
func catch(p *T) { s := recover(); s += "!" }
func start() { go drop(new(T)) }
func stuck() { c := make(chan *T); go func() { c <- new(T) }() }
func stuck2() { c := make(chan string); go func() { s := <-c; s += "a" }() }
func stuck3() { c := make(chan *T, 1); d := make(chan int); go func() { select { case p := <-c: p.n++; case d <- 1: } }() }
func stuck4(p *T, n int) { <-make(chan int) }
func stuck5() { defer func() { select { } }(); p := new(T); gn = p.n }
func stuck6() *T { defer hang(); return new(T) }
func stuck7() { defer drop(new(T)); hang() }
func hang() { select { } }
func deep(n int) { p := new(T); if n > 0 { deep(n-1) }; p.n++; select { } }
`

// TestWhatCanBeReached counts what roots lead to. In the end all goroutines are asleep: main, and others that wait.
func TestWhatCanBeReached(t *testing.T) {
	for _, x := range []stands{
		{``, 0},
		{`p := new(T); p.n++`, 1},
		{`p := new(T); p = nil`, 0},
		{`p := new(T); q := p; p = nil; q.n++`, 1},
		{`p := new(E); q := new(E); if p == q { }`, 2},
		{`g = new(T); g = &T{p: g}; g = &T{p: g}`, 3},
		{`g = new(T); g = &T{p: g}; g = g.p; gs = "b"`, 1},
		{`g = new(T); g = nil`, 1}, // in the register that it was made in
		{`g = new(T); g = nil; gs = "b"`, 0},
		{`gs = "a" + "b"; gs = ""; gs = "b"`, 0},
		{`gs = "a" + "b"`, 1},
		{`gs = "ab"; s := "cd"; f := drop; f = nil; s = ""`, 0},
		{`gs = "ab"[1:1]; gs = "" + ""`, 0},
		{`waste(); waste(); later(); fail(); start()`, 0},
		{`make1(); make2()`, 0},
		{`p := make1(); p.n++`, 1},
		{`a := make2(); a[0] = nil`, 3},
		{`a := make2(); a = a[:0]`, 4},
		{`a := make2()[1]; a.n++`, 1 + 3},                                                    // the slice is in a register
		{`a := make([]*T, 5); a[4] = new(T); a[4] = a[3]; a = append(a[:0], new(T))`, 3 + 1}, // what was appended to is in a register
		{`a := []int{1, 2}; b := a[1:]; a = nil; b[0] = 3`, 2},
		{`a := []int{1, 2}; a = append(a, 3)`, 2},
		{`a := []int{1, 2}; b := append(a, 3); a[0] = b[0]`, 4},
		{`a := make([]int, 4)[:1]; a = append(a, 3)`, 2 + 1}, // the first slice is in a register
		{`var a []int; a = append(a); a = a[:]`, 0},
		{`a := [][]int{[]int{1}, []int{2}}; a[0] = nil; gs = "b"`, 4},
		{`x := 1; f := func() { x++ }; f()`, 2},
		{`x := 1; gf = func() { x++ }; gf = nil; gs = "b"`, 1},
		{`p := new(T); f := func() { p = new(T) }; f(); f()`, 3 + 1}, // box, closure, the last one, and the first in a register
		{`gf = func() { gn++ }; gf(); gf = func() { gn-- }; gs = "b"`, 1},
		{`c := make(chan *T, 3); c <- new(T); c <- new(T); <-c; gs = "b"`, 2},
		{`c := make(chan *T, 3); c <- new(T); c <- new(T); <-c; <-c; gs = "b"`, 1},
		{`c := make(chan *T, 3); c <- new(T); p := <-c; p = nil; gs = "b"`, 1},
		{`c := make(chan int, 3); c <- 64; c <- 66; <-c`, 1},
		{`c := make(chan chan int, 1); c <- make(chan int); gs = "b"`, 2},
		{`c := make(chan chan int, 1); c <- make(chan int); d := <-c; c = nil; close(d)`, 1},
		{`stuck()`, 3},  // box, channel, what is sent
		{`stuck2()`, 2}, // box, channel
		{`stuck3()`, 4}, // two of each
		{`go stuck4(new(T), 64); gs = "b"`, 2},
		{`go stuck5()`, 1 + 1}, // the closure is in a register
		{`go stuck6(); gs = "b"`, 1},
		{`go stuck7(); gs = "b"`, 1},
		{`go deep(3); gs = "b"`, 4},
		{`go deep(0); go deep(1); gs = "b"`, 3},
		{`deep(2)`, 3},
		{`defer drop(new(T)); gs = "b"`, 1},
		{`defer number(64); defer drop(nil)`, 0},
		{`defer func() { gn++ }(); gs = "b"`, 1},
		{`x := 1; defer func() { x++ }(); gs = "b"`, 2},
		{`p := new(T); defer drop(p); p = nil; defer drop(p)`, 1},
		{`func() { defer drop(new(T)); gn++ }(); gs = "b"`, 0},
		{`p := &T{p: &T{p: new(T)}}; p = p.p; gs = "b"; p = &T{p: p.p}`, 2},
		{`p := new(T); p.p = p; p = nil`, 0},
		{`for i := 0; i < 9; i++ { p := &T{n: i}; p.p = p }`, 1},
		{`s := "a" + "b"; t := s; s = s[1:]; if s == t { }`, 2},
		{`s := "ab"; t := s[:] + ""; if s == t { }`, 2}, // the part is in a register
	} {
		src := source(x.main+"\nselect { }", standFile)
		asleep := api.Outcome{State: api.Fatal, Code: 2, Why: "fatal: all goroutines are asleep"}
		stops(t, src, asleep, enough, x.reached)
		// A goroutine of the for's own safepoints lets others run: one that doesn't stand alone is left out.
		if !strings.Contains(x.main, "go ") && !strings.Contains(x.main, "stuck") && !strings.Contains(x.main, "start") && !strings.Contains(x.main, "deep") {
			stops(t, source(x.main+"\nfor { }", standFile), api.Outcome{}, 5000, x.reached)
		}
	}
}

// stops runs a source until it stops, with and without collections: as much can be reached; and where the last safepoint collects nothing else is there.
func stops(t *testing.T, src string, want api.Outcome, fuel, reached int) {
	t.Helper()
	for _, words := range []int{1024, great} {
		for _, force := range [][]int{nil, everyPoint, {3, 5, 6}} {
			o, d := run(t, src, api.Config{Words: words, Fuel: fuel, Force: force})
			if o != want || d.Reached != reached || d.Blocks < reached || want.State == api.Running && len(force) > 100 && d.Blocks != reached {
				t.Errorf("%s\n%+v %+v, not %d", src[strings.Index(src, "func main"):], o, d, reached)
			}
		}
	}
}

// TestWhatIsOver asks what can be reached when main, or a function that panics, is over: nothing of it.
func TestWhatIsOver(t *testing.T) {
	for _, x := range []struct {
		main, why string
		reached   int
	}{
		{`p := new(T); p.n++`, "", 0},
		{`g = new(T); p := new(T); p.n++`, "", 1},
		{`waste(); s := "a" + "b"; gs = s + s`, "", 1},
		{`p := new(T); f := func() { p.n++ }; f(); panic("a" + "b")`, "panic: ab", 0},
		{`g = new(T); panic("a" + "b")`, "panic: ab", 1},
		{`go hang(); go stuck4(new(T), 1); go fail2(); hang()`, "panic: nil dereference", 2},
		{`stuck(); p := new(T); for i := 0; i < 9; i++ { p.n++ }`, "", 2}, // it hasn't begun: a box, and the channel
		{`go deep(2); over(0)`, "fatal: stack overflow", 60 - 1},
		{`p := new(T); for { print("abcdefgh"); p.n++ }`, "fatal: too much output", 1},
		{`for { go stuck4(new(T), 1) }`, "fatal: too many goroutines", 64},
	} {
		file := standFile + "func fail2() { p := new(T); p.p.n = p.n }\nfunc over(n int) { p := new(T); p.n = n; over(n + 1) }\n"
		for _, force := range [][]int{nil, everyPoint} {
			o, d := run(t, source(x.main, file), api.Config{Words: 20000, Fuel: enough, Force: force})
			if o.Why != x.why || d.Reached != x.reached || d.Blocks < d.Reached {
				t.Errorf("%s: %+v %+v, not %d", x.main, short(o), d, x.reached)
			}
		}
	}
}

// TestNumbersKeepNothing puts numbers that are addresses wherever numbers may be: what isn't reached else stays so.
func TestNumbersKeepNothing(t *testing.T) {
	const file = `
type T struct { n int; m int; p *T; b bool; }
var gn int
var g *T
func waste() { p := &T{p: new(T)}; a := []*T{p, p}; c := make(chan *T, 3); c <- a[0]; s := "a" + "b"; f := func() { p.n++; s = "" }; f() }
func under(x int, y int) int { z := x; w := func() int { return y + z }; select { }; return w() }
func answer(x int) int { defer hang(); return x }
func hang() { select { } }
func take(a int, b int) { }
`
	reached := func(address int) int {
		x := fmt.Sprint(address)
		main := `waste(); waste(); gn = ` + x + `; x := gn; y := gn; f := func() { y++; y-- }; a := []int{x, x, x}; b := append(a, x); c := make(chan int, 5); c <- x; c <- x; p := &T{n: x, m: x}; d := make(chan int); defer take(x, x); s := "a" + "b"
go func() { d <- x }(); go under(x, x); go answer(x); go func() { select { case d <- x: case e := <-d: e++ } }(); f(); b[0] = x; g = p; s += s; z := x; z++; select { }`
		o, d := run(t, source(main, file), api.Config{Words: 2048, Fuel: enough})
		if o.Why != "fatal: all goroutines are asleep" {
			t.Fatalf("%+v", o)
		}
		_, dForced := run(t, source(main, file), api.Config{Words: 2048, Fuel: enough, Force: everyPoint})
		if d.Reached != dForced.Reached {
			t.Errorf("%d: %+v %+v", address, d, dForced)
		}
		return d.Reached
	}
	want := reached(7)
	if want < 15 {
		t.Errorf("%d are reached", want)
	}
	for address := 64; address < 1000; address += 2 {
		if got := reached(address); got != want {
			t.Errorf("with the number %d: %d are reached, not %d", address, got, want)
		}
	}
}
