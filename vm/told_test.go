package vm_test

import (
	"math/rand"
	"strconv"
	"strings"
	"testing"

	"derrick/api"
	"derrick/code"
	"derrick/vm"
	"derrick/walk"
)

// TestTold asks for all that is told, of runs that end, are still running, panic, and have no memory.
func TestTold(t *testing.T) {
	const file = "type T struct { n int; p *T; }\nvar g *T\nvar gs string\nfunc add(x int) func() int { return func() int { x++; return x } }\n"
	for _, x := range []struct {
		main        string
		words, fuel int
		state       int
		want        vm.Told // but for Collected
	}{
		{``, 128, enough, api.Exited, vm.Told{Points: 1}},
		{`x := 1; f := func() { x++ }; f(); print(x)`, 128 + 64, enough, api.Exited, vm.Told{Made: walk.Made{Boxes: 1, Closures: 1}, Blocks: 2, Points: 2}},
		{`for i := 0; i < 3; i++ { x := i; f := func() { x++ }; f() }`, great, enough, api.Exited, vm.Told{Made: walk.Made{Boxes: 3, Closures: 3}, Blocks: 6, Points: 1 + 4 + 3}},
		{`a := add(1); b := add(2); a(); print(a(), b())`, great, enough, api.Exited, vm.Told{Made: walk.Made{Boxes: 2, Closures: 2}, Blocks: 4, Points: 1 + 2 + 3}},
		{`g = &T{p: new(T)}; p := &T{}; p.n++`, great, enough, api.Exited, vm.Told{Made: walk.Made{Objects: 3}, Blocks: 3, Reached: 2, Points: 1}},
		{`a := []int{1, 2}; b := a[1:]; b = append(b, 3); b = append(b, 4); b = append(b)`, great, enough, api.Exited, vm.Told{Made: walk.Made{Arrays: 3}, Blocks: 2 + 1 + 2 + 2, Points: 1}},
		{`a := make([]int, 4)[:0]; a = append(a, 1); a = append(a, 2, 3)`, great, enough, api.Exited, vm.Told{Made: walk.Made{Arrays: 1}, Blocks: 2 + 1 + 2, Points: 1}},
		{`var a []int; a = a[:]; a = append(a); a = append(a, 1)`, great, enough, api.Exited, vm.Told{Made: walk.Made{Arrays: 1}, Blocks: 2, Points: 1}},
		{`c := make(chan int, 3); d := make(chan chan int, 1); d <- c; <-d; go func() { }()`, great, enough, api.Exited, vm.Told{Made: walk.Made{Chans: 2, Closures: 1}, Blocks: 3, Points: 2}},
		{`gs = "a" + "b"; s := gs[1:]; s = gs + s; s = ""; print("constant", add == nil)`, great, enough, api.Exited, vm.Told{Blocks: 3, Reached: 1, Points: 1}},
		{`defer func() { recover() }(); a := []int{1}; a = a[2:]`, great, enough, api.Exited, vm.Told{Made: walk.Made{Closures: 1, Arrays: 1}, Blocks: 1 + 2 + 1, Points: 2}},
		{`g = new(T); p := new(T); p.p.n++`, great, enough, api.Fatal, vm.Told{Made: walk.Made{Objects: 2}, Blocks: 2, Reached: 1, Points: 1}},
		{`f := add(1); g.n = f()`, great, enough, api.Fatal, vm.Told{Made: walk.Made{Boxes: 1, Closures: 1}, Blocks: 2, Points: 3}},
		{`p := new(T); select { }; p.n++`, great, enough, api.Fatal, vm.Told{Made: walk.Made{Objects: 1}, Blocks: 1, Reached: 1, Points: 1}},
		{`p := new(T); p = new(T); for { p.n++ }`, great, 3 + 6*1000, api.Running, vm.Told{Made: walk.Made{Objects: 2}, Blocks: 2, Reached: 1, Points: 1 + 1000}},
		{`for { }`, 128, 3, api.Running, vm.Told{Points: 2}},
		{`p := new(T); p = &T{p: p}; a := []int{1}`, 128, enough, api.NoMemory, vm.Told{Made: walk.Made{Objects: 2}, Blocks: 2, Reached: 2, Points: 1}},
		{`for i := 0; i < 99; i++ { g = &T{p: g} }`, 128, enough, api.NoMemory, vm.Told{Made: walk.Made{Objects: 16}, Blocks: 16, Reached: 16, Points: 1 + 17}},
		{`for i := 0; i < 99; i++ { p := new(T); p.n++ }`, 128, enough, api.Exited, vm.Told{Made: walk.Made{Objects: 99}, Blocks: 99 - 6*15, Points: 1 + 100}},
		{`for i := 0; i < 16; i++ { p := new(T); p.n++ }`, 128, enough, api.Exited, vm.Told{Made: walk.Made{Objects: 16}, Blocks: 16, Points: 1 + 17}},
		{`for i := 0; i < 17; i++ { p := new(T); p.n++ }`, 128, enough, api.Exited, vm.Told{Made: walk.Made{Objects: 17}, Blocks: 2, Points: 1 + 18}},
	} {
		o, d := run(t, source(x.main, file), api.Config{Words: x.words, Fuel: x.fuel})
		collected := d.Collected
		d.Collected = 0
		if o.State != x.state || d != x.want {
			t.Errorf("%s: %+v\n%+v, not\n%+v", x.main, o, d, x.want)
		}
		if (collected > 0) != (x.words == 128 && (x.state == api.NoMemory || x.want.Made.Objects > 16)) {
			t.Errorf("%s: %d collections", x.main, collected)
		}
		// Forced ones are told as well. They change nothing but what isn't reached.
		oForced, dForced := run(t, source(x.main, file), api.Config{Words: x.words, Fuel: x.fuel, Force: upTo(x.want.Points)})
		if oForced != o || dForced.Made != d.Made || dForced.Points != d.Points || dForced.Reached != d.Reached || dForced.Collected < d.Points || dForced.Blocks > d.Blocks && x.words != 128 {
			t.Errorf("%s: %+v\n%+v, forced\n%+v", x.main, oForced, d, dForced)
		}
	}
}

// TestCollectionsOfNoRoom counts them: a span has 16 places, and one round's object is still in a register when the next has no room.
func TestCollectionsOfNoRoom(t *testing.T) {
	for _, x := range []struct{ rounds, words, collected int }{{16, 128, 0}, {17, 128, 1}, {31, 128, 1}, {32, 128, 2}, {46, 128, 2}, {47, 128, 3}, {32, 192, 0}, {33, 192, 1}, {1000, 128, 66}} {
		src := source("for i := 0; i < "+strconv.Itoa(x.rounds)+"; i++ { p := new(T); p.n++ }", "type T struct { n int; p *T; }")
		if o, d := run(t, src, api.Config{Words: x.words, Fuel: enough}); o.State != api.Exited || d.Collected != x.collected || d.Made.Objects != x.rounds {
			t.Errorf("%d rounds, %d words: %+v %+v", x.rounds, x.words, o, d)
		}
	}
}

// far asks of each fuel that runs with other words and other collections come just as far, and that what is there is what the last safepoint left, and what was made since.
func far(t *testing.T, src string, p code.Program, script []int, most int) {
	t.Helper()
	config := func(words, fuel int, force []int) api.Config {
		return api.Config{Script: script, Force: force, Words: words, Fuel: fuel}
	}
	words := tight(p, script)
	left, ahead := 0, vm.Told{} // the blocks that the last safepoint left, and how it stood there without collections
	output := ""
	for fuel := 0; fuel <= most; fuel++ {
		o, d := vm.Run(p, config(1<<14, fuel, nil))
		oForced, dForced := vm.Run(p, config(1<<14, fuel, everyPoint))
		oTight, dTight := vm.Run(p, config(words, fuel, nil))
		if o != oForced || o != oTight || o.State == api.NoMemory {
			t.Fatalf("%s\n%v, fuel %d: %+v, forced %+v, with %d words %+v", src, script, fuel, short(o), short(oForced), words, short(oTight))
		}
		if d.Made != dForced.Made || d.Points != dForced.Points || d.Reached != dForced.Reached || d.Made != dTight.Made || d.Points != dTight.Points || d.Reached != dTight.Reached {
			t.Fatalf("%s\n%v, fuel %d: %+v, forced %+v, with %d words %+v", src, script, fuel, d, dForced, words, dTight)
		}
		if d.Collected != 0 || dForced.Collected != d.Points || dForced.Blocks < d.Reached || dTight.Blocks < d.Reached {
			t.Fatalf("%s\n%v, fuel %d: %+v, forced %+v, with %d words %+v", src, script, fuel, d, dForced, words, dTight)
		}
		if d.Points > ahead.Points {
			left, ahead = dForced.Blocks, d
			if dForced.Blocks != d.Reached {
				t.Fatalf("%s\n%v, fuel %d: %+v, forced %+v", src, script, fuel, d, dForced)
			}
		}
		if dForced.Blocks != left+d.Blocks-ahead.Blocks {
			t.Fatalf("%s\n%v, fuel %d: %+v, forced %+v, there were %d", src, script, fuel, d, dForced, left)
		}
		if !strings.HasPrefix(o.Output, output) {
			t.Fatalf("%s\n%v, fuel %d: %q, not more than %q", src, script, fuel, o.Output, output)
		}
		output = o.Output
		if o.State != api.Running {
			return
		}
	}
}

// TestAsFarWithTheSameFuel goes through fuels.
func TestAsFarWithTheSameFuel(t *testing.T) {
	chance := rand.New(rand.NewSource(2))
	const file = "type T struct { n int; s string; p *T; }\nvar g *T\n"
	for _, src := range []string{
		source(`for i := 0; i < 4; i++ { x := i; f := func() { x++; g = &T{n: x, p: g} }; f(); print(x) }`, file),
		source(`a := []string{}; for i := 0; i < 5; i++ { a = append(a, "x" + "y"); a = a[len(a)/2:]; print(a[0]) }`, file),
		source(`c := make(chan *T, 1); go func() { for i := 0; i < 4; i++ { c <- &T{n: i, s: "a" + "b"} }; close(c) }(); for { p := <-c; if p == nil { break }; print(p.n, p.s) }`, file),
		source(`for i := 0; i < 3; i++ { func() { defer func() { print(recover()); g = new(T) }(); defer func(p *T) { panic(p.s + "!") }(&T{s: "s" + "t"}); g = nil; g.n = 1 }() }`, file),
		source(`c := make(chan string); d := make(chan *T); go func() { for { select { case s := <-c: print(s); case d <- &T{s: "d"}: } } }(); for i := 0; i < 4; i++ { select { case c <- "e" + "f": case p := <-d: print(p.s) } }; g.n = 1`, file),
	} {
		p := compiled(t, src)
		far(t, src, p, nil, 2000)
		for range 3 {
			far(t, src, p, schedule(chance), 2000)
		}
	}
	for seed := range 60 {
		chance := rand.New(rand.NewSource(int64(seed)))
		if src := written(chance, 20+seed%100); src != "" {
			far(t, src, compiled(t, src), schedule(chance), 300)
		}
	}
}

// TestLessFuel asks that the output of a run with less fuel is a beginning of that with more, also of one that has no memory.
func TestLessFuel(t *testing.T) {
	for _, words := range []int{128, 256, 1024} {
		p := compiled(t, source(`s := ""; for { s += "a"; print(len(s), " "); f := func() { print(s[0]) }; f() }`, ""))
		output, ended := "", 0
		for fuel := range 6000 {
			o, d := vm.Run(p, api.Config{Words: words, Fuel: fuel})
			if !strings.HasPrefix(o.Output, output) || o.State != api.NoMemory && ended > 0 || d.Blocks < d.Reached {
				t.Fatalf("fuel %d: %+v %+v", fuel, o, d)
			}
			output = o.Output
			if o.State == api.NoMemory {
				ended++
			}
		}
		if words < 1024 && ended == 0 {
			t.Errorf("%d words: has an end with no fuel", words)
		}
	}
}

// TestFuelForGreatThings has few steps for all that they make and go through: a thousand for each is enough nevertheless.
func TestFuelForGreatThings(t *testing.T) {
	const file = "func long() string { s := \"a\"; for i := 0; i < 14; i++ { s += s }; return s }\nfunc full(n int) []int { a := make([]int, 1024); for len(a) < n { a = append(a, 7) }; return a }\nfunc same(s string) string { return s }\nfunc fail(s string) { defer func() { recover() }(); panic(s) }\n"
	const longSteps, fullSteps = 14 * 6, 7000 * 8
	for _, x := range []struct {
		ahead, round      string
		aheadSteps, steps int // ahead of the rounds and in each of them, at least
	}{
		{`a := full(8192)`, `b := append(a, 1); b = nil`, fullSteps, 8},
		{`s := long()[1:]`, `t := s + "a"; t = ""`, longSteps, 8},
		{`s := long()`, `t := s[:]; t = ""`, longSteps, 6},
		{`s := long(); t := s[1:] + "b"`, `if s == t { }`, longSteps, 5},
		{`s := long(); t := s[1:] + "b"`, `if s < t { }`, longSteps, 5},
		{`s := long()`, `if len(s) == s[5] { }`, longSteps, 6},
		{`s := long()`, `same(s)`, longSteps, 6},
		{`s := long()`, `fail(s)`, longSteps, 9},
		{``, `a := make([]int, 1024); a = nil`, 0, 7},
		{``, `c := make(chan int, 1024); c = nil`, 0, 7},
		{`s := long()[:600]`, `print(s)`, longSteps, 4},
		{``, `defer same("a")`, 0, 4},
	} {
		src := source(x.ahead+"\nfor i := 0; i < 100; i++ { "+x.round+" }", file)
		if o, d := run(t, src, api.Config{Words: api.MaxWords, Fuel: 1000 * (x.aheadSteps + 100*x.steps)}); o.State != api.Exited {
			t.Errorf("%s: %+v %+v", x.round, short(o), d)
		}
	}
}

// TestRunsWithoutAnEnd asks that they stop when the fuel is used up, soon enough.
func TestRunsWithoutAnEnd(t *testing.T) {
	for _, main := range []string{
		`for { }`, `for { x := 1; f := func() { x++ }; f() }`, `for { defer func() { }() }`, `for { defer main() }`, `for { func() { defer func() { recover() }(); panic("x") }() }`,
		`c := make(chan int); go func() { for { c <- 1 } }(); for { <-c }`, `for { select { default: } }`, `s := ""; for { s += "abcdefgh"; if len(s) > 16000 { s = "" } }`,
		`for { a := make([]int, 1024); a = append(a, 1) }`, `for { go func() { }(); c := make(chan int); go func() { c <- 1 }(); <-c }`,
	} {
		p := compiled(t, source(main, ""))
		for _, fuel := range []int{1000, 54321, 300000} {
			o, d := vm.Run(p, api.Config{Words: 1 << 19, Fuel: fuel})
			if o != (api.Outcome{}) || d.Points == 0 {
				t.Errorf("%s: %+v %+v", main, o, d)
			}
		}
	}
}
