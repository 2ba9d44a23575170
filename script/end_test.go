package script_test

import (
	"strconv"
	"strings"
	"testing"

	"derrick/api"
	"derrick/drive"
)

// TestEnds runs sources to each end on both machines.
func TestEnds(t *testing.T) {
	for main, want := range map[string]string{
		"": `exited ""`, "print(1, true, \"x\")": `exited "1truex"`, "for { }": "running", "print(1); for { }": "running", "c := make(chan int, 1); for { c <- 1; <-c }": "running",
		`print("a\nb")`: `exited "a\nb"`, `print("\n")`: `exited "\n"`, `print("\"")`: `exited "\""`, `print("\\")`: `exited "\\"`, `print("\\n")`: `exited "\\n"`, `print("a\"b\\c\nd|e /' ~")`: `exited "a\"b\\c\nd|e /' ~"`,
		`s := "\\\""; print(s[1:], s[:1], len(s))`: `exited "\"\\2"`,
		`print("x"); panic("y")`:                   `fatal "x" panic: y`, `panic("")`: `fatal "" panic: `, `panic(" \"q\" \\ ")`: `fatal "" panic:  "q" \ `, `print("\n\"\\"); panic("p")`: `fatal "\n\"\\" panic: p`, `panic("a\nb")`: "fatal \"\" panic: a\nb",
		"x := 0; print(7 / x)": `fatal "" panic: divide by zero`, "x := 0; print(7 % x)": `fatal "" panic: divide by zero`, "var a []int; a[0] = 1": `fatal "" panic: index out of range`, "var a []int; print(len(a[1:]))": `fatal "" panic: slice bounds out of range`,
		"n := -1; print(len(make([]int, n)))": `fatal "" panic: bad length`, "n := 1025; print(len(make([]int, n)))": `fatal "" panic: bad length`, "var f func(); f()": `fatal "" panic: call of nil function`,
		"var c chan int; close(c)": `fatal "" panic: close of nil channel`, "c := make(chan int); close(c); close(c)": `fatal "" panic: close of closed channel`, "c := make(chan int); close(c); c <- 1": `fatal "" panic: send on closed channel`,
		"print(1); var c chan int; <-c": `fatal "1" fatal: all goroutines are asleep`, "select { }": `fatal "" fatal: all goroutines are asleep`,
		"var f func(); f = func() { print(1); f() }; f()":                               `fatal "` + strings.Repeat("1", api.MaxDepth-1) + `" fatal: stack overflow`,
		"c := make(chan int); for { print(2); go func() { <-c }() }":                    `fatal "` + strings.Repeat("2", api.MaxTasks) + `" fatal: too many goroutines`,
		`s := "0123456789abcde\n"; for { print(s) }`:                                    `fatal "` + strings.Repeat(`0123456789abcde\n`, api.MaxOutput/16) + `" fatal: too much output`,
		`s := "\""; for len(s) < 4096 { s += s }; for i := 0; i < 16; i++ { print(s) }`: `exited "` + strings.Repeat(`\"`, api.MaxOutput) + `"`,
		`defer func() { print("!", recover()) }(); panic("\n")`:                         `exited "!\n"`,
	} {
		does(t, "func main() { "+main+" }", "words 65536\nrun 1000\nwalk 1000\n", "ok\n"+want+"\n"+want+"\n")
	}
}

// TestMemory runs sources that have no room in the heap, in some of it, and on the machine without bounds.
func TestMemory(t *testing.T) {
	const grows = "type T struct {\nn *T\n}\nfunc main() {\nvar g *T\nprint(\"a\\n\\\"\\\\\")\nfor i := 0; i < 3000; i++ {\ng = &T{n: g}\n}\nprint(g.n == nil)\n}"
	does(t, grows, "run 1000\nwords 8192\nrun 1000\nwalk 1000\nwords 128\nrun 1000\nwords 127\nrun 1000\n", `memory "a\n\"\\"`+"\nok\n"+`exited "a\n\"\\false"`+"\n"+`exited "a\n\"\\false"`+"\nok\n"+`memory "a\n\"\\"`+"\nok\nmemory \"\"\n")
	const small = "func main() { x := 1; print(x) }"
	for words, want := range map[string]string{
		"128": `exited "1"`, "129": `exited "1"`, "4096": `exited "1"`, "1048576": `exited "1"`,
		"127": `memory ""`, "64": `memory ""`, "1": `memory ""`, "0": `memory ""`, "-1": `memory ""`, "-128": `memory ""`, "-4096": `memory ""`, "1048577": `memory ""`, "999999999999999": `memory ""`, "-999999999999999": `memory ""`, "4294971392": `memory ""`,
	} {
		does(t, small, "words "+words+"\nrun 9\nwalk 9\n", "ok\n"+want+"\nexited \"1\"\n")
	}
	does(t, "#", "words 0\nrun 9\n", "ok\nlexical: line 1, byte 1\n")
	does(t, "func main() { for { } }", "words 1\nrun 9\nwords 128\nrun 9\n", "ok\nmemory \"\"\nok\nrunning\n")
}

// TestWordsAtFirst finds the least number of words with which a source has room, just below, at and above those that are there at first.
func TestWordsAtFirst(t *testing.T) {
	const src = "func main() { a := make([]int, 1000); b := make([]int, 1000); c := make([]int, 1000); d := make([]int, 895); print(len(a), len(b), len(c), len(d)) }"
	does(t, src, "run 9\nwords 4096\nrun 9\nwords 4095\nrun 9\n", "exited \"100010001000895\"\nok\nexited \"100010001000895\"\nok\nmemory \"\"\n")
	const more = "func main() { a := make([]int, 1000); b := make([]int, 1000); c := make([]int, 1000); d := make([]int, 896); print(len(a), len(b), len(c), len(d)) }"
	does(t, more, "run 9\nwords 4096\nrun 9\nwords 4160\nrun 9\n", "memory \"\"\nok\nmemory \"\"\nok\nexited \"100010001000896\"\n")
}

// counting is a source that takes more steps the more rounds and statements it has.
func counting(rounds, stmts int) string {
	return "func main() {\nfor i := 0; i < " + strconv.Itoa(rounds) + "; i++ { print(\"\") }\nx := 0\n" + strings.Repeat("x = 1\n", stmts) + "print(\"end\")\n}\n"
}

// TestSteps holds which N is enough against the fuel that layer 17's calls want. Some sources want a whole number of thousands, some a step more.
func TestSteps(t *testing.T) {
	for line, ends := range map[string]func(src string, fuel int) bool{
		"walk ": func(src string, fuel int) bool {
			o, _ := drive.Walk(src, nil, fuel)
			return o.State == api.Exited
		},
		"run ": func(src string, fuel int) bool {
			r, _ := drive.Run(src, api.Config{Words: 4096, Fuel: fuel})
			return r.Outcome.State == api.Exited
		},
	} {
		wholes, onesMore := 0, 0
		for k := range 1000 {
			src := counting(170+k/10, k%10)
			fuel := least(func(fuel int) bool { return ends(src, fuel) })
			if fuel%1000 == 0 {
				wholes++
			} else if fuel%1000 == 1 {
				onesMore++
			} else if k%50 > 0 {
				continue
			}
			n := (fuel + 999) / 1000
			does(t, src, line+strconv.Itoa(n)+"\n"+line+strconv.Itoa(n-1)+"\n"+line+strconv.Itoa(n+1)+"\n"+line+"0\n", "exited \"end\"\nrunning\nexited \"end\"\nrunning\n")
		}
		if wholes == 0 || onesMore == 0 {
			t.Errorf("%s: %d %d", line, wholes, onesMore)
		}
	}
}

// least is the least fuel, above 0, that is enough.
func least(isEnough func(fuel int) bool) int {
	low, high := 0, 1
	for !isEnough(high) {
		low, high = high, 2*high
	}
	for high-low > 1 {
		if middle := (low + high) / 2; isEnough(middle) {
			high = middle
		} else {
			low = middle
		}
	}
	return high
}

// TestMostSteps runs what ends in no run, and what ends only in a great one.
func TestMostSteps(t *testing.T) {
	does(t, "func main() { for { } }", "run 100000\nwalk 100000\n", "running\nrunning\n")
	does(t, "func main() { i := 0; for i < 5000000 { i++ }; print(i) }", "run 5\nwalk 5\nrun 100000\nwalk 100000\n", "running\nrunning\nexited \"5000000\"\nexited \"5000000\"\n")
}

// TestSchedules has schedules that change what is done, and ones that don't.
func TestSchedules(t *testing.T) {
	const src = "func main() {\ngo func() {\nprint(\"g\")\n}()\nprint(\"m\")\n}"
	for schedule, want := range map[string]string{
		"": "m", " 0": "m", " 1": "m", " 0 0": "m", " 0 1": "gm", " 1 1": "gm", " 0 1 0": "gm", " 0 1 1": "m", " 0 3": "m", " 0 5": "gm", " 0 -1": "m", " -1 1": "gm", " -7 -3 9": "m", " 5 5 6 3": "gm", " 2 999999999999999": "m", " 2 999999999999997": "gm", " 0 0 1 1 1": "m",
	} {
		does(t, src, "schedule"+schedule+"\nwalk 9\nrun 9\nwords 1024\nforce 1 2\nrun 9\nwalk 9\n", "ok\n"+strings.Repeat("exited \""+want+"\"\n", 2)+"ok\nok\n"+strings.Repeat("exited \""+want+"\"\n", 2))
	}
	does(t, src, "schedule 0 1\nwalk 9\nschedule 0\nwalk 9\nschedule 1 1\nrun 9\nschedule\nrun 9\nwalk 9\nschedule x\nwalk 9\n",
		"ok\nexited \"gm\"\nok\nexited \"m\"\nok\nexited \"gm\"\nok\nexited \"m\"\nexited \"m\"\nerror\nexited \"m\"\n")
	const chosen = "func main() { a := make(chan int, 1); b := make(chan int, 1); a <- 1; b <- 2; select { case x := <-a: print(x); case x := <-b: print(x) }; select { default: print(3) } }"
	does(t, chosen, "walk 9\nschedule 0 1\nwalk 9\nrun 9\nschedule 0 2\nrun 9\nschedule 0 999999999999999\nrun 9\nwalk 9\n", "exited \"13\"\nok\nexited \"23\"\nexited \"23\"\nok\nexited \"13\"\nok\nexited \"23\"\nexited \"23\"\n")
}

// strewn makes many objects and keeps few, which lie far from each other if nothing is collected on the way; then it wants a great block.
const strewn = "type T struct {\nn *T\n}\nfunc main() {\nvar keep *T\nfor i := 0; i < 200; i++ {\nt := &T{}\nif i % 30 == 0 { keep = &T{n: keep}; t = keep }\nt.n = nil\n}\na := make([]int, 100)\nprint(\"ok\", len(a))\n}"

// TestSafepoints has safepoints that change what has room, and ones that change nothing.
func TestSafepoints(t *testing.T) {
	const none, room = "memory \"\"\n", "exited \"ok100\"\n"
	for force, want := range map[string]string{
		"": none, " 0": none, " 100": none, " 50 100": none, " 180": room, " 100 180": room, " 1 2 3 180": room, " -5 180": room, " 0 180 1000": room, " 999999999999999": none, " -999999999999999": none, " 180 180": room, " 1000 180": none, " 180 100": room,
	} {
		does(t, strewn, "words 320\nforce"+force+"\nrun 9\nwalk 9\nwords 384\nrun 9\n", "ok\nok\n"+want+room+"ok\n"+room)
	}
	does(t, strewn, "words 320\nforce 180\nrun 9\nforce 1\nrun 9\nforce 180\nrun 9\nforce\nrun 9\nforce 180\nrun 9\nforce 01\nrun 9\nschedule 180\nforce\nrun 9\n",
		"ok\nok\n"+room+"ok\n"+none+"ok\n"+room+"ok\n"+none+"ok\n"+room+"error\n"+room+"ok\nok\n"+none)
}

// TestSettingsStay sets all that can be set, and changes one after the other: the others stay, until clear.
func TestSettingsStay(t *testing.T) {
	const main = "|func main() {\n|go func() {\n|print(\"g\")\n|}()\n|print(\"m\")\n|}\n"
	answers(t, "schedule 0 1\n"+main+"run 1\nwords 200\nrun 1\nforce 2\nrun 1\nhm\nrun 1\ncheck\nshow\nrun 1\nwords 100\nrun 1\nwalk 1\nwords 200\nrun 1\n|//\nrun 1\nclear\n"+main+"run 1\nwalk 1\nwords 100\nrun 1\nclear\n"+main+"run 1\n",
		oks(7)+"exited \"gm\"\nok\nexited \"gm\"\nok\nexited \"gm\"\nerror\nexited \"gm\"\nok funcs 2 vars 0 structs 0\n|func main() {\n|\tgo func() {\n|\t\tprint(\"g\")\n|\t}()\n|\tprint(\"m\")\n|}\nexited \"gm\"\nok\nmemory \"\"\nexited \"gm\"\nok\nexited \"gm\"\nok\nexited \"gm\"\nok\n"+
			oks(6)+"exited \"m\"\nexited \"m\"\nok\nmemory \"\"\nok\n"+oks(6)+"exited \"m\"\n")
	lines := put(strewn)
	answers(t, lines+"words 320\nforce 180\nrun 9\n"+lines+"words 320\nrun 9\n", oks(strings.Count(lines, "\n")+2)+"exited \"ok100\"\n"+oks(strings.Count(lines, "\n")+1)+"memory \"\"\n")
}
