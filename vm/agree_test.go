package vm_test

import (
	"math/rand"
	"strings"
	"testing"

	"derrick/api"
	"derrick/code"
	"derrick/vm"
	"derrick/walk"
)

// forces are lists of forced collections: none, all, some.
func forces(chance *rand.Rand) [][]int {
	var some []int
	for k := range 3000 {
		if chance.Intn(4) == 0 {
			some = append(some, k)
		}
	}
	return [][]int{nil, everyPoint, some}
}

// count is what came of many runs.
type count struct {
	states     map[int]int
	noMemory   int
	collected  int
	output     int
	compared   int
	tightFits  int // runs with collections where there was no room, that ended nevertheless
	withForced int
}

// agree runs a program in heaps of several sizes, with several collections, and holds it against the machine without bounds; the greatest heap has room.
func (n *count) agree(t *testing.T, src string, p code.Program, script []int, chance *rand.Rand) {
	t.Helper()
	want, made := walk.Run(p, script, enough)
	if want.State == api.Running {
		t.Fatalf("%s\nhas no end", src)
	}
	n.states[want.State]++
	n.output += len(want.Output)
	var first *vm.Told
	for _, words := range []int{128 + chance.Intn(400), tight(p, script), 512 + chance.Intn(2000), 3000 + chance.Intn(20000), great} {
		for _, force := range forces(chance) {
			c := api.Config{Script: script, Force: force, Words: words, Fuel: enough}
			o, d := vm.Run(p, c)
			n.collected += d.Collected
			n.compared++
			switch {
			case o.State == api.NoMemory:
				n.noMemory++
				noMemoryIs(t, src, want, o, d)
				if words == great {
					t.Fatalf("%s\n%v\nno memory in a great heap: %+v", src, script, d)
				}
				continue
			case o != want || d.Made != made:
				t.Fatalf("%s\n%v, %d words, %d forced\n%+v %+v, not\n%+v %+v", src, script, words, len(force), short(o), d, short(want), made)
			case first == nil:
				first = &d
			}
			if d.Points != first.Points || d.Reached != first.Reached || d.Reached > d.Blocks {
				t.Fatalf("%s\n%v, %d words, %d forced\n%+v, and %+v", src, script, words, len(force), d, *first)
			}
			if force == nil && d.Collected > 0 {
				n.tightFits++
			}
			if force != nil && d.Collected > 0 {
				n.withForced++
			}
		}
	}
}

// tight are about as few words as a run ends in.
func tight(p code.Program, script []int) int {
	words := 128
	for words < great {
		if o, _ := vm.Run(p, api.Config{Script: script, Words: words, Fuel: enough}); o.State != api.NoMemory {
			break
		}
		words += 64 * (1 + words/512)
	}
	return words
}

// noMemoryIs asks a run that has no memory for what holds of it: a beginning of the output, and that a collection left nothing but what can be reached.
func noMemoryIs(t *testing.T, src string, whole, o api.Outcome, d vm.Told) {
	t.Helper()
	isBeginning := strings.HasPrefix(whole.Output, o.Output)
	o.Output = ""
	if !isBeginning || o != outOfMemory || d.Blocks != d.Reached || d.Collected == 0 {
		t.Fatalf("%s\n%+v %+v", src, o, d)
	}
}

func schedule(chance *rand.Rand) []int {
	script := make([]int, chance.Intn(60))
	for k := range script {
		script[k] = chance.Intn(24) - 2
	}
	return script
}

// TestTheCorpusAgrees runs every kind of statement and expression.
func TestTheCorpusAgrees(t *testing.T) {
	n := &count{states: map[int]int{}}
	chance := rand.New(rand.NewSource(1))
	for src := range everySource {
		p := compiled(t, src)
		n.agree(t, src, p, nil, chance)
		for range 2 {
			n.agree(t, src, p, schedule(chance), chance)
		}
	}
	if n.states[api.Exited] < 200 || n.states[api.Fatal] < 150 || n.noMemory < 300 || n.tightFits < 50 || n.withForced < 2000 {
		t.Errorf("%+v", n)
	}
}

// TestSchedulesAgree runs sources that schedules take to many places.
func TestSchedulesAgree(t *testing.T) {
	for _, src := range []string{
		source(`q := make(chan string); for i := 0; i < 3; i++ { go func(x string) { for k := 0; k < 2; k++ { print(x); q <- x + "!" } }("abc"[i:]) }; for i := 0; i < 6; i++ { print(<-q) }`, ""),
		source(`go add(1); go add(10); add(100); for i := 0; i < 9; i++ { }; print(g.n)`, "type N struct { n int; }\nvar g *N\nfunc add(x int) { for i := 0; i < 3; i++ { if g == nil { g = new(N) }; y := g; g = &N{n: y.n + x}; print(g.n, \" \") } }"),
		source(`a := make(chan []int, 1); b := make(chan []int); go func() { for { select { case a <- []int{1}: case x := <-b: print("b", x[0]); case b <- []int{2}: } } }(); for i := 0; i < 5; i++ { select { case x := <-a: print("a", x[0]); case b <- []int{i}: case x := <-b: print("c", x[0]); default: print("d") } }`, ""),
		source(`x := "" + "<"; done := make(chan bool); for i := 0; i < 2; i++ { go func() { for k := 0; k < 3; k++ { y := x; for z := 0; z < 1; z++ { }; x = y + "."; print(len(x)) }; done <- true }() }; <-done; <-done; print("=", x)`, ""),
		source(`c := make(chan *P); d := make(chan *P, 2); for i := 0; i < 4; i++ { go func(x *P) { defer func() { print("(", recover(), ")") }(); select { case c <- x: print("s", x.n); case y := <-c: print("r", y.n); case d <- x: print("d", x.n) } }(&P{n: i}) }; close(d); for i := 0; i < 8; i++ { select { case x := <-c: print("m", x.n); default: } }; close(c); for i := 0; i < 8; i++ { }`, "type P struct { n int; }"),
	} {
		n := &count{states: map[int]int{}}
		outputs := map[string]int{}
		p := compiled(t, src)
		for seed := range 60 {
			chance := rand.New(rand.NewSource(int64(seed)))
			script := schedule(chance)
			n.agree(t, src, p, script, chance)
			o, _ := walk.Run(p, script, enough)
			outputs[o.Output]++
		}
		if len(outputs) < 8 || n.collected < 1000 {
			t.Errorf("%s\n%+v %v", src, n, outputs)
		}
	}
}

// TestWrittenByChance runs sources by chance.
func TestWrittenByChance(t *testing.T) {
	n := &count{states: map[int]int{}}
	for seed := range 400 {
		chance := rand.New(rand.NewSource(int64(seed)))
		src := written(chance, 20+seed%150)
		if src == "" {
			continue
		}
		p := compiled(t, src)
		for range 2 {
			script := schedule(chance)
			if o, _ := walk.Run(p, script, enough/40); o.State != api.Running {
				n.agree(t, src, p, script, chance)
			}
		}
	}
	if n.states[api.Exited] < 300 || n.states[api.Fatal] < 300 || n.noMemory < 500 || n.tightFits < 200 || n.withForced < 5000 {
		t.Errorf("%+v", n)
	}
}
