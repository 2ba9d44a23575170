package vm_test

import (
	"strings"
	"testing"

	"derrick/api"
	"derrick/heap"
	"derrick/vm"
	"derrick/walk"
)

// thing is something that a source makes: its kind, and how many words stand behind the headers of its blocks.
type thing struct {
	kind  string
	sizes []int
}

func box() thing              { return thing{"box", []int{1}} }
func closure(boxes int) thing { return thing{"closure", []int{1 + boxes}} }
func object(fields int) thing { return thing{"object", []int{fields}} }
func text(bytes int) thing    { return thing{"string", []int{1 + (bytes+7)/8}} }
func array(items int) thing   { return thing{"array", []int{items, 4}} }
func cut() thing              { return thing{"slice", []int{4}} }
func channel(places int) thing {
	return thing{"channel", []int{4 + places}}
}

// loop is what main does ahead of a loop, and in each of its rounds; and what is made by that.
type loop struct {
	name          string
	ahead, round  string
	first, things []thing
	file          string
}

func (l loop) source(rounds string) string {
	return source(l.ahead+"\nfor "+rounds+" { "+l.round+"; print(\".\") }", l.file)
}

// keepers keep all that they make.
var keepers = []loop{
	{"objects", "", `g = &T{p: g}`, nil, []thing{object(2)}, "type T struct { p *T; n int; }\nvar g *T"},
	{"great objects", "", `g = &T{p: g}`, nil, []thing{object(16)}, "type T struct { a int; b int; c int; d int; e int; f int; h int; i int; j int; k int; l int; m int; n int; o int; q int; p *T; }\nvar g *T"},
	{"boxes and closures", "", `h := g; g = func() { h() }`, nil, []thing{box(), closure(1)}, "var g func()"},
	{"boxes of numbers", "", `x := 1; y := x; h := g; g = func() { x++; y++; h() }`, nil, []thing{box(), box(), box(), closure(3)}, "var g func()"},
	{"params in boxes", "", `keep(g, 1)`, nil, []thing{box(), box(), closure(2)}, "var g func()\nfunc keep(h func(), x int) { g = func() { x++; h() } }"},
	{"sums", "", `g = &T{p: g, s: "abc" + "defgh"}`, nil, []thing{text(8), object(2)}, "type T struct { p *T; s string; }\nvar g *T"},
	{"sums with +=", `s := "a"`, `s = "ab"; s += "cdefghi"; g = &T{p: g, s: s}`, nil, []thing{text(9), object(2)}, "type T struct { p *T; s string; }\nvar g *T"},
	{"parts of strings", `s := "abcdefghijklmnopq"`, `g = &T{p: g, s: s[:len(s)-1]}`, nil, []thing{text(16), object(2)}, "type T struct { p *T; s string; }\nvar g *T"},
	{"empty strings", `s := "abc"`, `g = &T{p: g, s: s[1:1] + ""}`, nil, []thing{object(2)}, "type T struct { p *T; s string; }\nvar g *T"},
	{"messages", "", `fail()`, nil, []thing{text(9), object(2)}, "type T struct { p *T; s string; }\nvar g *T\nfunc fail() { defer catch(); panic(\"abcdefghi\") }\nfunc catch() { g = &T{p: g, s: recover()} }"},
	{"the machine's messages", "", `fail()`, nil, []thing{text(len("divide by zero")), object(2)}, "type T struct { p *T; s string; }\nvar g *T\nvar n int\nfunc fail() { defer catch(); n = 1 / n }\nfunc catch() { g = &T{p: g, s: recover()} }"},
	{"no messages", "", `g = &T{p: g, s: recover()}`, nil, []thing{object(2)}, "type T struct { p *T; s string; }\nvar g *T"},
	{"slices", "", `g = &T{p: g, l: make([]int, 5)}`, nil, []thing{array(5), object(2)}, "type T struct { p *T; l []int; }\nvar g *T"},
	{"great slices", "", `g = &T{p: g, l: make([]*T, 100)}`, nil, []thing{array(100), object(2)}, "type T struct { p *T; l []*T; }\nvar g *T"},
	{"empty slices", "", `g = &T{p: g, l: []int{}}`, nil, []thing{array(0), object(2)}, "type T struct { p *T; l []int; }\nvar g *T"},
	{"lists", "", `g = &T{p: g, l: []string{"a", "b", "c"}}`, nil, []thing{array(3), object(2)}, "type T struct { p *T; l []string; }\nvar g *T"},
	{"appends to nothing", `var a []int`, `g = &T{p: g, l: append(a, 1, 2, 3)}`, nil, []thing{array(3), object(2)}, "type T struct { p *T; l []int; }\nvar g *T"},
	{"appends to new arrays", `a := []int{1, 2, 3, 4}`, `g = &T{p: g, l: append(a, 1)}`, []thing{array(4)}, []thing{array(8), object(2)}, "type T struct { p *T; l []int; }\nvar g *T"},
	{"appends to the same array", `a := make([]int, 9); b := a[:3]`, `g = &T{p: g, l: append(b, 1, 2)}`, []thing{array(9), cut()}, []thing{cut(), object(2)}, "type T struct { p *T; l []int; }\nvar g *T"},
	{"appends of nothing", `a := make([]int, 9)`, `g = &T{p: g, l: append(a)}`, []thing{array(9)}, []thing{object(2)}, "type T struct { p *T; l []int; }\nvar g *T"},
	{"slicings", `a := make([]int, 9)`, `g = &T{p: g, l: a[1:]}`, []thing{array(9)}, []thing{cut(), object(2)}, "type T struct { p *T; l []int; }\nvar g *T"},
	{"slicings of nil", `var a []int`, `g = &T{p: g, l: a[:]}`, nil, []thing{object(2)}, "type T struct { p *T; l []int; }\nvar g *T"},
	{"channels", "", `g = &T{p: g, c: make(chan int, 3)}`, nil, []thing{channel(3), object(2)}, "type T struct { p *T; c chan int; }\nvar g *T"},
	{"channels of references", "", `g = &T{p: g, c: make(chan *T, 100)}`, nil, []thing{channel(100), object(2)}, "type T struct { p *T; c chan *T; }\nvar g *T"},
	{"channels without places", "", `g = &T{p: g, c: make(chan string)}`, nil, []thing{channel(0), object(2)}, "type T struct { p *T; c chan string; }\nvar g *T"},
	{"items of a channel", `c := make(chan *T, 1024)`, `c <- new(T)`, []thing{channel(1024)}, []thing{object(1)}, "type T struct { n int; }"},
	{"functions of the file", "", `g = &T{p: g, f: main}`, nil, []thing{object(2)}, "type T struct { p *T; f func(); }\nvar g *T"},
	{"deferred closures", `x := 1`, `defer func() { x++ }()`, []thing{box()}, []thing{closure(1)}, ""},
	{"deferred arguments", "", `defer keep(1, new(T), "a" + "b")`, nil, []thing{object(2), text(2)}, "type T struct { p *T; n int; }\nfunc keep(n int, p *T, s string) { }"},
	{"in a closure's box", "var p *T\nf := func() { p = &T{p: p} }", `f()`, []thing{box(), closure(1)}, []thing{object(1)}, "type T struct { p *T; }"},
	{"in a slice", "a := make([]*T, 1024); i := 0", `a[i] = new(T); i++`, []thing{array(1024)}, []thing{object(1)}, "type T struct { p *T; }"},
}

// fill makes things in a heap until there is no place for one: how many rounds were whole, and what was made.
func (l loop) fill(words int) (rounds, blocks int, made walk.Made) {
	h := heap.New(words)
	make := func(things []thing) bool {
		for _, x := range things {
			for _, size := range x.sizes {
				if _, ok := h.Alloc(1 + size); !ok {
					return false
				}
			}
			blocks += len(x.sizes)
			x.countIn(&made)
		}
		return true
	}
	if !make(l.first) {
		return 0, blocks, made
	}
	for make(l.things) {
		rounds++
	}
	return rounds, blocks, made
}

func (x thing) countIn(made *walk.Made) {
	switch x.kind {
	case "box":
		made.Boxes++
	case "closure":
		made.Closures++
	case "object":
		made.Objects++
	case "array":
		made.Arrays++
	case "channel":
		made.Chans++
	}
}

// TestNoRoom keeps things of each kind until there is no place for one more: the run ends just where the heap is full, and no sooner.
func TestNoRoom(t *testing.T) {
	for _, l := range keepers {
		p := compiled(t, l.source(""))
		for _, words := range []int{128, 192, 200, 256, 320, 512, 1000, 1536, 2048} {
			rounds, blocks, made := l.fill(words)
			for _, force := range [][]int{nil, everyPoint} {
				o, d := vm.Run(p, api.Config{Words: words, Fuel: enough, Force: force})
				want := outOfMemory
				want.Output = strings.Repeat(".", rounds)
				if o != want || d.Made != made || d.Blocks != blocks || d.Reached != blocks || d.Collected == 0 {
					t.Errorf("%s, %d words: %+v %+v\nnot %d rounds, %d blocks, %+v", l.name, words, short(o), d, rounds, blocks, made)
				}
			}
		}
	}
}

// forgetters forget all that they make, but for the last round.
var forgetters = []loop{
	{name: "objects", round: `p := &T{n: i}; p.n++`, things: []thing{object(2)}, file: "type T struct { p *T; n int; }"},
	{name: "boxes and closures", round: `x := i; f := func() { x++ }; f()`, things: []thing{box(), closure(1)}},
	{name: "strings", round: `s := "abc" + "def"; s = s[1:]; s += "x"`, things: []thing{text(6), text(5), text(6)}},
	{name: "messages", round: `fail()`, things: []thing{text(8), text(8)}, file: "func fail() { defer catch(); panic(\"abcd\" + \"efgh\") }\nfunc catch() { s := recover(); s = \"\" }"},
	{name: "slices", round: `a := make([]int, 50); a[0] = i`, things: []thing{array(50)}},
	{name: "lists and slicings", round: `a := []string{"a", "b"}; a = a[1:]; a = append(a, "c"); a = append(a[:1], "d")`, things: []thing{array(2), cut(), array(2), cut(), cut()}},
	{name: "great slices", round: `a := make([]*T, 1000); a[0] = nil`, things: []thing{array(1000)}, file: "type T struct { }"},
	{name: "channels", round: `c := make(chan *T, 7); c <- new(T); c <- new(T); <-c`, things: []thing{channel(7), object(0), object(0)}, file: "type T struct { }"},
	{name: "what goes through a channel", ahead: `c := make(chan *T, 3)`, round: `c <- &T{n: i}; <-c`, first: []thing{channel(3)}, things: []thing{object(1)}, file: "type T struct { n int; }"},
	{name: "what is deferred", round: `f(i)`, things: []thing{object(1), box(), closure(1)}, file: "type T struct { n int; }\nfunc f(x int) { defer g(new(T)); defer func() { x++ }() }\nfunc g(p *T) { p.n++ }"},
	{name: "what is answered", round: `f(i)`, things: []thing{object(1), array(1)}, file: "type T struct { n int; }\nfunc f(x int) *T { a := []*T{&T{n: x}}; return a[0] }"},
	{name: "goroutines", round: `c := make(chan string); go func() { c <- "a" + "b" }(); <-c`, things: []thing{box(), channel(0), closure(1), text(2)}},
	{name: "rings", round: `p := &T{n: i}; p.p = &T{p: p}; p.q = []*T{p, p.p}`, things: []thing{object(3), object(3), array(2)}, file: "type T struct { p *T; n int; q []*T; }"},
}

// TestThingsAreForgotten runs long loops in heaps that have room for a few rounds.
func TestThingsAreForgotten(t *testing.T) {
	for _, l := range forgetters {
		words := 128
		for rounds := 0; rounds < 4; rounds, _, _ = l.fill(words) {
			words += 64
		}
		const rounds = 2500
		p := compiled(t, l.source("i := 0; i < 2500; i++"))
		for _, more := range []int{0, 64, 640, 6400} {
			for _, force := range [][]int{nil, everyPoint} {
				o, d := vm.Run(p, api.Config{Words: words + more, Fuel: enough, Force: force})
				if o != (api.Outcome{State: api.Exited, Output: strings.Repeat(".", rounds)}) || more == 0 && d.Collected == 0 || d.Reached > 0 {
					t.Errorf("%s, %d words: %+v %+v", l.name, words+more, short(o), d)
				}
			}
		}
	}
}

// TestTheLastTwoRounds asks what a loop that forgets has kept: with a collection at each safepoint no more than two rounds make.
func TestTheLastTwoRounds(t *testing.T) {
	for _, l := range forgetters {
		most := 0
		for _, x := range l.things {
			most += 2 * len(x.sizes)
		}
		for _, x := range l.first {
			most += len(x.sizes)
		}
		p := compiled(t, l.source("i := 0; ; i++"))
		for fuel := 1; fuel < 1500; fuel++ {
			o, d := vm.Run(p, api.Config{Words: 1 << 14, Fuel: fuel, Force: everyPoint})
			if o.State != api.Running || d.Reached > most {
				t.Fatalf("%s, fuel %d: %+v %+v, more than %d", l.name, fuel, o, d, most)
			}
		}
	}
}

// TestWhatHadNoRoomWasNotMade has one span alone: what is of another class than the first thing that is kept has no place.
func TestWhatHadNoRoomWasNotMade(t *testing.T) {
	for _, x := range []struct {
		main string
		made walk.Made
	}{
		{`a := make([]int, 64)`, walk.Made{}},
		{`a := make([]int, 63)`, walk.Made{}}, // the array has room, the slice hasn't
		{`a := []int{1, 2, 3}`, walk.Made{}},
		{`a = append(a, 1)`, walk.Made{}},
		{`c := make(chan int, 60)`, walk.Made{}},
		{`c := make(chan int, 59); a = []int{1}`, walk.Made{Chans: 1}},
		{`x := 1; f := func() { x++ }; f()`, walk.Made{Boxes: 1}},
		{`f := func() { }; s := "abc"[:1]; f()`, walk.Made{Closures: 1}},
		{`e = new(E); s := "abc"[:1]; print(s)`, walk.Made{Objects: 1}},
		{`e = new(E); s := "a" + "b"; print(s)`, walk.Made{Objects: 1}},
		{`e = new(E); defer catch(); panic("a")`, walk.Made{Objects: 1}},
		{`e = new(E); defer catch(); print(1 / n)`, walk.Made{Objects: 1}},
		{`e = new(E); t := new(T); t.a = 1`, walk.Made{Objects: 1}},
		{`e = new(E); a := []int{}; a[0] = 1`, walk.Made{Objects: 1}},
		{`a := make([]int, 4); b := a[:2]; b[0] = 1; e = new(E)`, walk.Made{Arrays: 1}},
		{`t := new(T); x := n; func() { print(t.a, x) }()`, walk.Made{Objects: 1}},
		{`t := new(T); defer func() { print("no") }()`, walk.Made{Objects: 1}},
		{`t := new(T); go func() { print("no") }()`, walk.Made{Objects: 1}},
	} {
		src := source(`print("a"); `+x.main+`; print("b")`, "type T struct { a int; b int; c int; }\ntype E struct { }\nvar e *E\nvar a []int\nvar n int\nfunc catch() { print(recover()) }")
		o, d := run(t, src, api.Config{Words: 128, Fuel: enough})
		want := outOfMemory
		want.Output = "a"
		if o != want || d.Made != x.made || d.Collected == 0 || d.Blocks != d.Reached {
			t.Errorf("%s: %+v %+v", x.main, o, d)
		}
		if o, _ := run(t, src, api.Config{Words: 1024, Fuel: enough}); o.State == api.NoMemory {
			t.Errorf("%s, with more words: %+v", x.main, o)
		}
	}
}
