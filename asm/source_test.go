package asm_test

import (
	"reflect"
	"strings"
	"testing"

	"derrick/api"
	"derrick/asm"
	"derrick/check"
	"derrick/code"
	"derrick/lower"
)

// made is the program that layer 9 makes of a source.
func made(t *testing.T, src string) code.Program {
	t.Helper()
	u, fault := check.Check(src)
	if fault != (api.Fault{}) {
		t.Fatalf("%s: %+v", src, fault)
	}
	return lower.Program(u)
}

// sources have, together, each instruction in what is made of them.
var sources = []string{
	"func main() { }",
	"func main() { a := 1; b := a; a = b; print(a) }",
	`func main() { print("a\n\"\\", 1, true) }`,
	`type T struct { n int; next *T; }
var g int
var all []*T
func f(n int, s string) string { if n < 3 && n != g || !(n <= 9) { return s + "!" }; return s[1:n] }
func main() {
	x := 7
	x = x*6 - x/2 + x%3
	inc := func() int { x++; g = x; return -x }
	t := &T{n: inc()}
	t.next = t
	all = append(all, t, nil)
	all[0].n = len(all) + cap(all) + len("abc")
	print(f(t.n, "abc"), "abc"[1], t == t.next, "a" == "b", "a" < "b", "a" <= "b", all[1:2][0] == nil)
	var h func()
	h = func() { h() }
	k := f
	print(k(1, "z"))
}`,
	`func main() {
	c := make(chan int, 3)
	d := make(chan string)
	go func(n int) { c <- n; close(c) }(3)
	defer func() { print(recover()) }()
	a := make([]int, 4)
	b := []string{"x", "y"}
	a[1] = len(c) + cap(c) + <-c
	select { case x := <-c: print(x); case d <- b[0]: print("sent"); default: panic("none") }
	for { }
}`,
}

func TestProgramsOfSources(t *testing.T) {
	seen := make([]bool, len(ops))
	for _, src := range sources {
		p := made(t, src)
		readBack(t, p)
		for _, f := range p.Funcs {
			for _, in := range f.Code {
				seen[in.Op] = true
			}
		}
	}
	for n, o := range ops {
		if n > 0 && !seen[n] {
			t.Errorf("no source has a %s", o.name)
		}
	}
}

// TestLinesOfASource holds what is printed against the program's own parts, where the source leaves no choice of them.
func TestLinesOfASource(t *testing.T) {
	p := made(t, `func less(a string, b string) bool { return a < b }
func main() { print(less("\"x\"", "y\n")) }`)
	text := asm.Print(p)
	lines := strings.Split(text, "\n")
	for _, want := range []string{`text 0 "\"x\""`, `text 1 "y\n"`, "main 2", ""} {
		found := false
		for _, line := range lines {
			found = found || line == want
		}
		if !found {
			t.Errorf("no line %q in\n%s", want, text)
		}
	}
	if !strings.Contains(text, "\nfunc 1 less params 2 captures 0 registers rr") || !strings.Contains(text, "\nfunc 2 main params 0 captures 0 registers ") || !strings.Contains(text, "\t0 yield\n") || strings.Count(text, "func ") != 2 || !strings.HasSuffix(text, "\nmain 2\n") {
		t.Error(text)
	}
	if strings.Count(text, " result\n") != 1 {
		t.Errorf("one function of two answers something:\n%s", text)
	}
}

// TestNothingIsChanged asks that a program stays as it is, the spare room of its lists too, and that its text is the same each time.
func TestNothingIsChanged(t *testing.T) {
	spare := []int{1, 2, 3, 4}
	refs := []bool{true, false, true}
	texts := []string{"a", "b"}
	p := code.Program{Texts: texts[:1], Funcs: []code.Func{{Refs: refs[:1], Code: []code.Instr{{Op: code.Call, List: spare[:2]}, {Op: code.Go, List: spare[1:3]}}}}}
	first := asm.Print(p)
	again := asm.Print(p)
	if first != again || first != "text 0 \"a\"\nfunc 1 - params 0 captures 0 registers r\n\t0 call 0 0 [1 2]\n\t1 go 0 [2 3]\nmain 0\n" {
		t.Errorf("%q and %q", first, again)
	}
	if !reflect.DeepEqual(spare, []int{1, 2, 3, 4}) || !reflect.DeepEqual(refs, []bool{true, false, true}) || !reflect.DeepEqual(texts, []string{"a", "b"}) {
		t.Errorf("%v %v %v", spare, refs, texts)
	}
}

// TestGreatPrograms prints some that take long, if a line's price grows with the lines ahead of it.
func TestGreatPrograms(t *testing.T) {
	many := make([]code.Instr, 1<<18)
	for i := range many {
		many[i] = code.Instr{Op: i % 58, A: i, B: -i, C: i * i, D: 1, List: []int{i, i}}
	}
	readBack(t, inFunc(many...))
	long := make([]int, 1<<19)
	readBack(t, inFunc(code.Instr{Op: code.Select, List: long}))
	readBack(t, code.Program{Funcs: []code.Func{{Refs: make([]bool, 1<<22)}}, Texts: []string{strings.Repeat("\"\n\\a", 1<<20)}})
	readBack(t, code.Program{Funcs: make([]code.Func, 1<<17), Texts: make([]string, 1<<17)})
}
