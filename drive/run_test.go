package drive_test

import (
	"math"
	"math/rand"
	"slices"
	"strings"
	"testing"

	"derrick/api"
	"derrick/drive"
	"derrick/vm"
	"derrick/walk"
)

var outOfMemory = api.Outcome{State: api.NoMemory, Code: 2, Why: "out of memory"}

// upTo are the numbers 1 to n.
func upTo(n int) []int {
	all := make([]int, n)
	for k := range all {
		all[k] = k + 1
	}
	return all
}

func schedule(chance *rand.Rand) []int {
	script := make([]int, chance.Intn(60))
	for k := range script {
		script[k] = chance.Intn(24) - 2
	}
	return script
}

// configs are such as a run may have, and such as none may.
func configs() []api.Config {
	var all []api.Config
	for _, words := range []int{math.MinInt, -1, 0, 1, 127, 128, 4096, api.MaxWords, api.MaxWords + 1, math.MaxInt} {
		for _, fuel := range []int{math.MinInt, -1, 0, 1, 300} {
			all = append(all, api.Config{Words: words, Fuel: fuel}, api.Config{Script: []int{1, -3, 5}, Force: []int{1, 2, 2, 9}, Words: words, Fuel: fuel})
		}
	}
	return all
}

// TestFaultsDontRun runs sources with a fault: there is nothing but the fault, whatever the config.
func TestFaultsDontRun(t *testing.T) {
	for _, x := range faults {
		for _, c := range configs() {
			if r, fault := drive.Run(x.src, c); r != (drive.Report{}) || fault != x.fault {
				t.Errorf("%.200q: %+v %+v", x.src, r, fault)
			}
			if o, fault := drive.Walk(x.src, c.Script, c.Fuel); o != (api.Outcome{}) || fault != x.fault {
				t.Errorf("%.200q: %+v %+v", x.src, o, fault)
			}
		}
	}
}

// TestNoFuel runs right sources without fuel: nothing is done.
func TestNoFuel(t *testing.T) {
	for _, w := range works {
		for _, fuel := range []int{0, -1, -1000, math.MinInt} {
			r, fault := drive.Run(w.src, api.Config{Script: []int{1, 1}, Force: upTo(9), Words: 4096, Fuel: fuel})
			if r != (drive.Report{}) || fault != (api.Fault{}) {
				t.Errorf("%s\n%+v %+v", w.src, r, fault)
			}
			if o, fault := drive.Walk(w.src, []int{1, 1}, fuel); o != (api.Outcome{}) || fault != (api.Fault{}) {
				t.Errorf("%s\n%+v %+v", w.src, o, fault)
			}
		}
	}
}

// TestNoHeap runs right sources with a number of words of which there is no heap.
func TestNoHeap(t *testing.T) {
	for _, w := range works {
		for _, words := range []int{0, 1, 64, 127, -1, -128, math.MinInt, api.MaxWords + 1, 2 * api.MaxWords, math.MaxInt} {
			r, fault := drive.Run(w.src, api.Config{Script: []int{1}, Force: []int{1}, Words: words, Fuel: enough})
			if r != (drive.Report{Outcome: outOfMemory}) || fault != (api.Fault{}) {
				t.Errorf("%s\n%d words: %+v %+v", w.src, words, r, fault)
			}
		}
	}
}

// TestHeapSizes runs a source that makes nothing in the smallest heap and the greatest.
func TestHeapSizes(t *testing.T) {
	for _, words := range []int{128, 129, 1000, api.MaxWords - 1, api.MaxWords} {
		r, fault := drive.Run("func main() { for i := 0; i < 3; i++ { print(i) } }", api.Config{Words: words, Fuel: enough})
		if r != (drive.Report{Outcome: exited("012"), Told: vm.Told{Points: 5}}) || fault != (api.Fault{}) {
			t.Errorf("%d words: %+v %+v", words, r, fault)
		}
	}
}

// TestOutOfMemory runs out of memory, on the one machine that has a bound.
func TestOutOfMemory(t *testing.T) {
	const src = "type T struct { next *T; }\nfunc main() { var p *T; for i := 0; i < 500; i++ { p = &T{next: p}; print(\".\") } }"
	if o, fault := drive.Walk(src, nil, enough); o != exited(strings.Repeat(".", 500)) || fault != (api.Fault{}) {
		t.Errorf("%+v %+v", o, fault)
	}
	for _, x := range []struct{ words, rooms int }{{128, 32}, {192, 64}, {640, 288}, {1024, 480}} { // two words an object, but for the span that isn't given out
		r, fault := drive.Run(src, api.Config{Words: x.words, Fuel: enough})
		want := outOfMemory
		want.Output = strings.Repeat(".", x.rooms)
		if r.Outcome != want || r.Told.Made != (walk.Made{Objects: x.rooms}) || r.Told.Blocks != x.rooms || r.Told.Reached != x.rooms || r.Told.Collected != 1 || r.Told.Points != x.rooms+2 || fault != (api.Fault{}) {
			t.Errorf("%d words: %+v %+v", x.words, r, fault)
		}
	}
	if r, _ := drive.Run(src, api.Config{Words: 1088, Fuel: enough}); r.Outcome != exited(strings.Repeat(".", 500)) {
		t.Errorf("%+v", r)
	}
}

// TestTold tells what was made, and how the heap stands.
func TestTold(t *testing.T) {
	const src = `type T struct { n int; }
var g *T
func main() {
	x := 1
	f := func() { x++; g = &T{n: x} }
	for i := 0; i < 3; i++ { f() }
	a := append([]int{1}, 2)
	c := make(chan *T, 1)
	c <- g
	print(len(a), g.n)
}`
	r, fault := drive.Run(src, api.Config{Words: 1024, Fuel: enough})
	made := walk.Made{Boxes: 1, Closures: 1, Objects: 3, Arrays: 2, Chans: 1}
	if r.Outcome != exited("24") || r.Told.Made != made || r.Told.Points != 8 || r.Told.Blocks != 10 || r.Told.Collected != 0 || fault != (api.Fault{}) {
		t.Errorf("%+v %+v", r, fault)
	}
	forced, _ := drive.Run(src, api.Config{Words: 1024, Fuel: enough, Force: upTo(100)})
	if forced.Outcome != r.Outcome || forced.Told.Made != made || forced.Told.Points != 8 || forced.Told.Collected != 8 || forced.Told.Reached != r.Told.Reached {
		t.Errorf("%+v, not %+v", forced, r)
	}
	some, _ := drive.Run(src, api.Config{Words: 1024, Fuel: enough, Force: []int{-1, 0, 2, 2, 1, 5, 100}})
	if some.Outcome != r.Outcome || some.Told.Collected != 2 {
		t.Errorf("%+v", some)
	}
}

// TestFuel goes through fuels one by one: with more of it a run comes as far at least, and once it has ended it ends so each time.
func TestFuel(t *testing.T) {
	for _, w := range works {
		for name, run := range map[string]func(fuel int) api.Outcome{
			"Walk": func(fuel int) api.Outcome {
				o, _ := drive.Walk(w.src, nil, fuel)
				return o
			},
			"Run": func(fuel int) api.Outcome {
				r, _ := drive.Run(w.src, api.Config{Words: 1 << 15, Fuel: fuel})
				return r.Outcome
			},
		} {
			last := api.Outcome{}
			for fuel := 0; fuel < 3000; fuel += 1 + fuel/150 {
				o := run(fuel)
				isBeginning := o.State == api.Running && o.Code == 0 && o.Why == "" && strings.HasPrefix(w.want.Output, o.Output)
				if o != w.want && !isBeginning || !strings.HasPrefix(o.Output, last.Output) || last.State != api.Running && o != last {
					t.Fatalf("%s\n%s with fuel %d: %+v, and %+v ahead of that", w.src, name, fuel, o, last)
				}
				last = o
			}
		}
	}
}

// TestGreatFuel has all the fuel that a number can tell.
func TestGreatFuel(t *testing.T) {
	for _, w := range works {
		o, _ := drive.Walk(w.src, nil, math.MaxInt)
		r, _ := drive.Run(w.src, api.Config{Words: api.MaxWords, Fuel: math.MaxInt})
		if o != w.want || r.Outcome != w.want {
			t.Errorf("%s\n%+v %+v", w.src, o, r.Outcome)
		}
	}
}

// TestSchedules runs a source to other ends by the schedule, the same on both machines.
func TestSchedules(t *testing.T) {
	const src = `func main() { c := make(chan int, 9); go func() { for i := 0; i < 3; i++ { print("a") }; c <- 1 }(); for i := 0; i < 3; i++ { print("b") }; <-c }`
	for _, x := range []struct {
		script []int
		output string
	}{
		{nil, "bbbaaa"}, {[]int{0, 0, 0, 0, 0, 0}, "bbbaaa"}, {[]int{-1, -3, -5}, "bbbaaa"}, {[]int{2, 4, 6}, "bbbaaa"}, {[]int{1, 1, 1, 0}, "bbbaaa"}, {[]int{0, 1, 0, 0, 1}, "abbbaa"}, {[]int{0, 1, 0, 0, 0, 0}, "aaabbb"}, {[]int{0, 3, 1, 0, 0, 0, 0, 0}, "aaabbb"},
	} {
		kept := slices.Clone(x.script)
		o, _ := drive.Walk(src, x.script, enough)
		r, _ := drive.Run(src, api.Config{Script: x.script, Words: 512, Fuel: enough})
		if o != exited(x.output) || r.Outcome != exited(x.output) {
			t.Errorf("%v: %+v %+v, not %q", x.script, o, r.Outcome, x.output)
		}
		if !slices.Equal(x.script, kept) {
			t.Errorf("%v was %v", x.script, kept)
		}
	}
}

// TestNothingIsKept hands a script and forced safepoints over, with spare room behind them, and asks again: nothing has changed.
func TestNothingIsKept(t *testing.T) {
	for _, w := range works {
		roomy := append(make([]int, 0, 20), 1, 3, 2, 5, 7)
		c := api.Config{Script: roomy, Force: roomy[:3], Words: great, Fuel: enough}
		first, _ := drive.Run(w.src, c)
		walked, _ := drive.Walk(w.src, roomy, enough)
		if !slices.Equal(roomy[:cap(roomy)], append([]int{1, 3, 2, 5, 7}, make([]int, 15)...)) {
			t.Fatalf("%s\nchanged: %v", w.src, roomy[:cap(roomy)])
		}
		drive.Run("func main() { a := []int{1}; for { a = append(a, 1) } }", api.Config{Words: 4096, Fuel: 5000})
		again, _ := drive.Run(w.src, c)
		walkedAgain, _ := drive.Walk(w.src, roomy, enough)
		if again != first || walkedAgain != walked || first.Outcome != walked {
			t.Errorf("%s\n%+v, then %+v; %+v, then %+v", w.src, first, again, walked, walkedAgain)
		}
	}
}
