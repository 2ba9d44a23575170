package lower_test

import (
	"math/rand"
	"testing"

	"derrick/api"
)

// limit is how many steps of a tree are gone; of a program, whose steps are smaller, some times as many.
const limit = 20000

// agree holds what a program does against what the trees of its source mean, and answers it.
func agree(t *testing.T, src string, script []int) *world {
	t.Helper()
	u, p := sound(t, src)
	tree, run := runTree(u, script, limit), runProgram(p, script, 8*limit)
	if tree.outcome.State == api.Running || run.outcome.State == api.Running {
		return tree
	}
	if tree.outcome != run.outcome || tree.made != run.made || tree.points != run.points {
		t.Fatalf("%.3000s\n%v\nmeans %+v %+v %d\ndoes  %+v %+v %d", src, script, tree.outcome, tree.made, tree.points, run.outcome, run.made, run.points)
	}
	return run
}

// row is what main does, what stands behind it in the file, and what comes of it.
type row struct {
	main, file string
	output     string
	why        string
}

func (r row) source() string { return "func main() { " + r.main + " }\n" + r.file }

func (r row) run(t *testing.T) {
	t.Helper()
	got := agree(t, r.source(), nil).outcome
	want := api.Outcome{State: api.Exited, Output: r.output, Why: r.why}
	if r.why != "" {
		want.State, want.Code = api.Fatal, 2
	}
	if got != want {
		t.Errorf("%s\n%+v, not %+v", r.source(), got, want)
	}
}

func TestExamplesOfTheWhole(t *testing.T) {
	for _, r := range []row{
		{main: `x := 7; print(x*6, " ", x/2, " ", -x % 4)`, output: "42 3 -3"},
		{main: `s := "ab"; s += s; print(s[1:3], len(s), s[0])`, output: "ba497"},
		{main: `a := []int{1, 2}; b := append(a, 3); b[0] = 9; print(a[0], b[0], len(b), cap(b))`, output: "1934"},
		{main: `f := func(n int) func() int { return func() int { n++; return n } }; g := f(4); g(); print(g())`, output: "6"},
		{main: `c := make(chan int); go func() { for i := 0; i < 3; i++ { c <- i }; close(c) }(); print(<-c, <-c, <-c, <-c)`, output: "0120"},
		{main: `defer func() { print("!", recover()) }(); var a []int; print(a[0])`, output: "!index out of range"},
		{main: `switch 2 { case 1: print(1); case 2: print(2); fallthrough; default: print(9) }`, output: "29"},
		{main: `c := make(chan int); <-c`, why: "fatal: all goroutines are asleep"},
		{main: `var f func(); f()`, why: "panic: call of nil function"},
		{main: `for i := 0; i < 1000; i++ { s := make([]int, 50); s[0] = i }; print("ok")`, output: "ok"},
	} {
		r.run(t)
	}
}

// told has functions that tell when they are called.
const told = `
type T struct {
	n int
	s string
	p *T
	l []int
}
var g int
var p *T
func n(x int) int { print("n", x); return x }
func b(x bool) bool { print("b", x); return x }
func s(x string) string { print("s", x); return x }
func o(x *T) *T { print("o"); return x }
func l(x []int) []int { print("l"); return x }
func c(x chan int) chan int { print("c"); return x }
func f(x int) func(int, int) int { print("f", x); return func(a int, b int) int { print("("); return x + a + b } }
func up() int { g++; return g }
`

func TestOrder(t *testing.T) {
	for _, r := range []row{
		{main: `x := n(1) + n(2) * n(3) - n(4); print(" ", x)`, output: "n1n2n3n4 3"},
		{main: `print(n(1) < n(2), n(1) > n(2), n(2) <= n(1), n(2) >= n(1))`, output: "n1n2n1n2n2n1n2n1truefalsefalsetrue"},
		{main: `print(s("a") < s("b"), s("a") > s("b"), s("a") >= s("a"), s("b") <= s("a"))`, output: "sasbsasbsasasbsatruefalsetruefalse"},
		{main: `print(s("a") == s("b"), s("a") != s("b"), s("") == "", s("") != "")`, output: "sasbsasbssfalsetruetruefalse"},
		{main: `print(n(1), n(2)); print(n(3))`, output: "n1n212n33"},
		{main: `l([]int{n(5), n(6)})[n(1)] = n(9)`, output: "n5n6ln1n9"},
		{main: `l([]int{n(5), n(6)})[n(1)] += n(9)`, output: "n5n6ln1n9"},
		{main: `l(nil)[n(1)] = n(9)`, output: "ln1n9", why: "panic: index out of range"},
		{main: `l(nil)[n(1)] += n(9)`, output: "ln1", why: "panic: index out of range"},
		{main: `l(nil)[n(1)]++`, output: "ln1", why: "panic: index out of range"},
		{main: `o(nil).n = n(1)`, output: "on1", why: "panic: nil dereference"},
		{main: `o(nil).n -= n(1)`, output: "o", why: "panic: nil dereference"},
		{main: `o(nil).n--`, output: "o", why: "panic: nil dereference"},
		{main: `print(f(n(1))(n(2), n(3)))`, output: "n1f1n2n3(6"},
		{main: `defer f(n(1))(n(2), n(3)); print("-")`, output: "n1f1n2n3-("},
		{main: `go f(n(1))(n(2), n(3)); print("-")`, output: "n1f1n2n3-"},
		{main: `var h func(int); h(n(1))`, output: "n1", why: "panic: call of nil function"},
		{main: `var h func(int); go h(n(1))`, output: "n1", why: "panic: call of nil function"},
		{main: `defer func() { print(recover()) }(); var h func(int); defer h(n(1)); print("no")`, output: "n1call of nil function"},
		{main: `c(make(chan int, n(1))) <- n(2)`, output: "n1cn2"},
		{main: `x := &T{l: l([]int{n(1)}), n: n(2), s: s("a")}; print(x.n, x.s, len(x.l), x.p == nil)`, output: "n1ln2sa2a1true"},
		{main: `print(l([]int{1, 2, 3})[n(1):n(3)][n(0)], s("abc")[n(1):n(2)])`, output: "ln1n3n0sabcn1n22b"},
		{main: `x := append(l([]int{n(1)}), n(2), n(3)); print(len(x), cap(x))`, output: "n1ln2n333"},
		{main: `x := g + up() + g; print(x, g)`, output: "21"},
		{main: `x := 1; h := func() int { x = x * 10; return x }; print(x + h() + x)`, output: "21"},
		{main: `x := 1; h := func() int { x = x * 10; return x }; x += h(); print(x)`, output: "11"},
		{main: `g += up() + up(); print(g)`, output: "3"},
		{main: `a := "a"; h := func() string { a += "b"; return a }; a += h() + a; print(a)`, output: "aabab"},
		{main: `switch n(2) { case n(1), n(2): print("!"); case n(3): print("?") }`, output: "n2n1n2!"},
		{main: `switch { case b(false), b(true): print("!"); case b(true): print("?") }`, output: "bfalsebtrue!"},
		{main: `switch n(4) { default: print("d"); fallthrough; case n(1): print(1); case n(2): print(2) }`, output: "n4n1n2d1"},
		{main: `select { case c(make(chan int, 1)) <- n(1): print("s"); case <-c(nil): print("r") }`, output: "cn1cs"},
		{main: `for i := n(0); i < n(2); i += n(1) { print("-") }`, output: "n0n2-n1n2-n1n2"},
		{main: `if n(1) == n(2) { print("?") } else if n(3) == n(3) { print("!") } else { print("?") }`, output: "n1n2n3n3!"},
	} {
		r.file = told
		r.run(t)
	}
}

func TestLogic(t *testing.T) {
	for _, r := range []row{
		{main: `print(b(true) && b(false), b(false) && b(true), b(true) || b(false), b(false) || b(true))`, output: "btruebfalsebfalsebtruebfalsebtruefalsefalsetruetrue"},
		{main: `print(b(false) || b(false) || b(true), b(true) && b(true) && b(true), !b(true))`, output: "bfalsebfalsebtruebtruebtruebtruebtruetruetruefalse"},
		{main: `x := false; y := true; x = y && x; print(x); y = x || y; print(y); x = y || x; print(x); y = x && !x; print(y)`, output: "falsetruetruefalse"},
		{main: `x := true; h := func() bool { x = !x; return x }; print(x && h(), x, x || h(), x)`, output: "falsefalsetruetrue"},
		{main: `var l []int; if l != nil && l[0] == 1 || len(l) == 0 { print("ok") }`, output: "ok"},
		{main: `p = new(T); for p != nil && p.n < 3 { p.n++; print(p.n) }`, output: "123"},
		{main: `print((b(true) || b(false)) && (b(false) || b(false) && b(true)))`, output: "btruebfalsebfalsefalse"},
		{main: `print(true == false, true != false, 1 == 1 == true, !(1 < 2) == (2 < 1))`, output: "falsetruetruetrue"},
	} {
		r.file = told
		r.run(t)
	}
}

func TestVariables(t *testing.T) {
	for _, r := range []row{
		{main: `for i := 0; i < 3; i++ { var x int; var s string; var q *T; x += i; s += "a"; print(x, s, q == nil); q = new(T); x = 9 }`, output: "0atrue1atrue2atrue"},
		{main: `for i := 0; i < 2; i++ { var x int; var s string; var q []int; h := func() { x++; s += "a"; q = append(q, 1) }; h(); h(); print(x, s, len(q)) }`, output: "2aa22aa2"},
		{main: `x := 1; { x := x + 1; print(x); { x := x * 10; print(x) }; x = 5 }; print(x)`, output: "2201"},
		{main: `var fs []func() int; for i := 0; i < 3; i++ { x := i * 10; fs = append(fs, func() int { x++; return x }) }; print(fs[0](), fs[0](), fs[1](), fs[2]())`, output: "121121"},
		{main: `var fs []func() int; for i := 0; i < 3; i++ { fs = append(fs, func() int { i++; return i }) }; print(fs[0](), fs[2]())`, output: "45"},
		{main: `var fs []func() int; for i := 0; i < 3; i++ { switch { case i >= 0: x := i; fs = append(fs, func() int { x += 5; return x }) } }; print(fs[0](), fs[0](), fs[1]())`, output: "5106"},
		{main: `q := make(chan int, 3); q <- 4; q <- 5; var fs []func() int; for i := 0; i < 3; i++ { select { case x := <-q: fs = append(fs, func() int { x++; return x }); default: fs = append(fs, func() int { return 0 }) } }; print(fs[0](), fs[0](), fs[1](), fs[2]())`, output: "5660"},
		{main: `q := make(chan *T, 1); q <- &T{n: 7}; select { case x := <-q: h := func() { x = x.p }; print(x.n); h(); print(x == nil) }`, output: "7true"},
		{main: `q := make(chan *T, 1); q <- nil; select { case x := <-q: print(x == nil) }; close(q); select { case x := <-q: print(x == nil) }`, output: "truetrue"},
		{main: `h := func(a int, q *T, t string) func() int { up := func() { a++; q = &T{n: a, p: q}; t += "." }; up(); up(); return func() int { return a*1000 + q.n*100 + q.p.n*10 + len(t) } }; print(h(1, nil, "")(), h(5, new(T), "ab")())`, output: "33227764"},
		{main: `var fib func(int) int; fib = func(n int) int { if n < 2 { return n }; return fib(n-1) + fib(n-2) }; print(fib(10))`, output: "55"},
		{main: `x := 1; func() { func() { func() { x *= 7 }() }(); x++ }(); print(x)`, output: "8"},
		{main: `a := 1; b := 2; h := func() func() int { k := b; return func() int { a += k; return a } }; print(h()(), h()(), a)`, output: "355"},
		{main: `p = &T{n: 1}; p = &T{n: 2, p: p}; q := p; q = &T{n: 3, p: q, l: []int{q.n}}; print(q.n, q.p.n, q.p.p.n, q.l[0])`, output: "3212"},
		{main: `q := new(T); h := func() { q = &T{n: q.n + 1, p: q} }; h(); h(); print(q.n, q.p.n, q.p.p.n)`, output: "210"},
		{main: `a := []int{1, 2, 3}; a = append(a[:1], a[2:][0]); print(len(a), a[1])`, output: "23"},
		{main: `s := "x"; s = s + s + s; t := s; s = ""; print(len(s), t, s == "", t > s)`, output: "0xxxtruetrue"},
		{main: `h := up; print(h(), h()); h = func() int { return 9 }; print(h(), h == nil, nil != h)`, output: "129falsetrue"},
		{main: `for i := 0; i < 3; x := i { print(x); i++ }`, output: "012"},
		{main: `for k := 0; k < 2; k++ { for i := 0; i < 2; x := "z" { print(x, "."); i++ } }`, output: ".z..z."},
		{main: `for i := 0; i < 3; x := i { h := func() int { return x }; print(h()); i++ }`, output: "012"},
	} {
		r.file = told
		r.run(t)
	}
}

func TestBranches(t *testing.T) {
	for _, r := range []row{
		{main: `for { print(1); break }; for i := 0; ; i++ { if i == 1 { continue }; if i == 3 { break }; print(i) }`, output: "102"},
		{main: `a: for i := 0; i < 3; i++ { b: for j := 0; j < 3; j++ { switch { case i == j: continue a; case j == 2: break b; case i == 2: break a }; print(i, j, " ") } }`, output: "10 "},
		{main: `a: for i := 0; i < 4; i++ { switch i { case 1: continue; case 2: break; case 3: break a; default: print("d") }; print(i) }`, output: "d02"},
		{main: `a: switch { default: for { break a } }; b: select { default: for { break b } }; print("ok")`, output: "ok"},
		{main: `for i := 0; i < 3; i++ { select { default: if i == 1 { break }; print(i) } }`, output: "02"},
		{main: `q := make(chan int, 1); for q <- 1; len(q) > 0; <-q { print(len(q)) }; for n(5); g < 2; n(6) { up() }; for var2 := "a"; var2 < "aaa"; var2 += "a" { print(var2) }`, output: "1n5n6n6aaa"},
		{main: `for i := 0; i < 3; i++ { select { default: if i == 1 { continue }; print(i) }; print("-") }`, output: "0-2-"},
		{main: `switch "b" { case "a": print(1); case "b", "c": print(2); case "b": print(3) }; switch true { case false: print(4) }`, output: "2"},
		{main: `switch p { case nil: print(1) }; p = new(T); switch p { case nil: print(2); case new(T): print(3); case p: print(4) }`, output: "14"},
		{main: `switch n(1) { }; switch { }; select { default: }; print("ok")`, output: "n1ok"},
		{main: `switch 1 { case 1: print(1); fallthrough; case 2: print(2); fallthrough; case 3: print(3); case 4: print(4) }`, output: "123"},
		{main: `switch 3 { default: print("d"); case 1: print(1); case 3: print(3) }`, output: "3"},
		{main: `switch 5 { case 1: print(1); default: x := 1; h := func() { x++ }; h(); print(x); fallthrough; case 3: print(3) }`, output: "23"},
		{main: `if n(1) == 1 { print("a") }; if n(1) == 2 { print("b") } else { print("c") }`, output: "n1an1c"},
		{main: `print(h(0), h(1), h(2), h(3))`, file: `func h(x int) int { if x == 0 { return 10 } else { switch x { case 1: return 11; default: for { if x > 2 { panic("x") }; return 12 } } } }`, output: "", why: "panic: x"},
		{main: `print(h(0), h(1), h(2))`, file: `func h(x int) string { switch { case x == 0: return "a"; case x == 1: fallthrough; default: return "b" } }`, output: "abb"},
		{main: `h(); print(k() == nil)`, file: `func h() { return; print("no"); for { go n(1) } }
func k() *T { return nil; x := 1; return func() *T { x++; return nil }() }`, output: "true"},
		{main: `h()`, file: "func h() { }\n", output: ""},
		{main: `print(h(3))`, file: `func h(x int) int { for { if x == 0 { return 7 }; x-- } }`, output: "7"},
	} {
		r.file += told
		r.run(t)
	}
}

func TestValues(t *testing.T) {
	for _, r := range []row{
		{main: `print(7/2, -7/2, 7%4, -7%4, 7%(-4), 2-5, 3*(-4), - -3)`, output: "3-33-33-3-123"},
		{main: `x := 999999999999999999; for i := 0; i < 4; i++ { x = x * 1000 + 7 }; print(x)`, output: "5076943277312270623"},
		{main: `print(0, 1, true, false, "", "a\n\"\\", len("a\n\"\\"))`, output: "01truefalsea\n\"\\4"},
		{main: `print("abc"[1], "abc"[1:], "abc"[:1], "abc"[:], "abc"[1:1], "abc"[3:] == "")`, output: "98bcaabctrue"},
		{main: `a := make([]int, 3); a[1] = 5; a[2]--; a[0] += 2; a[1] *= 3; a[1] -= 1; print(a[0], a[1], a[2], len(a), cap(a), len(a[1:]), cap(a[:1]))`, output: "214-13323"},
		{main: `a := make([]string, 2); a[0] += "x"; a[1] = a[0] + a[1] + "y"; print(a[0], a[1], len(a[1]))`, output: "xxy2"},
		{main: `a := make([]*T, 2); a[0] = new(T); a[0].n++; a[1] = a[0]; a[1].n += 3; print(a[0].n, a[0] == a[1], a[0] != nil)`, output: "4truetrue"},
		{main: `a := [][]int{[]int{1, 2}, nil, []int{}}; print(len(a), len(a[0]), a[0][1], a[1] == nil, a[2] == nil)`, output: "322truefalse"},
		{main: `var a []int; print(len(a), cap(a), a == nil, append(a) == nil, a[0:0] == nil); a = append(a, 1, 2); a = append(a, 3); print(len(a), cap(a), a[2])`, output: "00truetruetrue343"},
		{main: `a := append([]string{"a"}, "b", ""); print(len(a), a[0], a[1], a[2] == ""); q := append([]*T{}, nil, p); print(q[0] == q[1])`, output: "3abtruetrue"},
		{main: `q := new(T); print(q.n, q.s, q.p == nil, q.l == nil, len(q.l)); q.n = 4; q.s = "s"; q.p = q; q.p.p.n++; q.s += q.p.s; q.l = append(q.l, q.n); q.l[0]++; print(q.n, q.s, q.l[0], q.p == q)`, output: "0truetrue05ss6true"},
		{main: `e := &E{}; d := new(E); print(e == d, e == e, e != nil)`, file: "type E struct { }\n", output: "falsetruetrue"},
		{main: `q := make(chan int, 3); q <- 1; q <- 2; print(len(q), cap(q), <-q, len(q)); var z chan string; print(len(z), cap(z), z == nil, q == q, cap(make(chan bool)))`, output: "231100truetrue0"},
		{main: `q := make(chan string, 1); q <- ""; print(<-q == ""); q <- "a" + "b"; print(<-q); close(q); print(<-q == "")`, output: "trueabtrue"},
		{main: `q := make(chan chan func() int, 1); z := make(chan func() int, 1); q <- z; z <- func() int { return 5 }; print((<-<-q)())`, output: "5"},
		{main: `gb = !gb; gs += "a"; gs = gs + gs; gf = func(x int) int { return x + g }; g = 4; gc = make(chan *T, 1); gc <- &T{n: 6}; ga = append(ga, g); ga[0] -= 3; print(gb, gs, gf(1), (<-gc).n, ga[0])`, file: "var gb bool\nvar gs string\nvar gf func(int) int\nvar gc chan *T\nvar ga []int\n", output: "trueaa561"},
		{main: `print(k(1, true, "a", nil, nil, nil, nil, nil), k(2, false, "", new(T), []int{1}, make(chan int), n, []*T{p}))`, file: `func k(a int, b bool, c string, d *T, e []int, f chan int, g func(int) int, h []*T) int { if b || d == nil || f == nil { return a }; return a + g(len(c)) + len(e) + len(h) }
`, output: "n014"},
		{main: `print(func(x int) int { return x * x }(7), func() string { return "" }() == "")`, output: "49true"},
		{main: `print("a" < "b", "b" < "a", "a" <= "a", "ab" > "a", "" >= "a", "a" == "a", "a" != "a", "" == "")`, output: "truefalsetruetruefalsetruefalsetrue"},
		{main: `print(1 < 2, 2 < 1, 1 <= 1, 2 > 1, 0 >= 1, 1 == 1, 1 != 1, -1 < 0)`, output: "truefalsetruetruefalsetruefalsetrue"},
		{main: `print()`, output: ""},
	} {
		r.file += told
		r.run(t)
	}
}

func TestPanics(t *testing.T) {
	for _, r := range []row{
		{main: `print("a"); panic("b")`, output: "a", why: "panic: b"},
		{main: `panic("")`, why: "panic: "},
		{main: `x := 0; print(n(1) / x)`, output: "n1", why: "panic: divide by zero"},
		{main: `make([]int, -1)[0]++`, why: "panic: bad length"},
		{main: `s := "a"; print(s[1])`, why: "panic: index out of range"},
		{main: `s := "a"; print(s[1:n(0)])`, output: "n0", why: "panic: slice bounds out of range"},
		{main: `print(p.n)`, why: "panic: nil dereference"},
		{main: `var q chan int; close(q)`, why: "panic: close of nil channel"},
		{main: `q := make(chan int); close(q); close(q)`, why: "panic: close of closed channel"},
		{main: `q := make(chan int); close(q); q <- 1`, why: "panic: send on closed channel"},
		{main: `defer print2("a"); defer print2("b"); panic("c")`, file: "func print2(x string) { print(x) }\n", output: "ba", why: "panic: c"},
		{main: `print(k(3), k(0))`, file: `func k(x int) int { defer func() { print("[", recover(), "]") }(); return 6 / x }
`, output: "[][divide by zero]20"},
		{main: `print(k() == nil)`, file: `func k() *T { defer func() { recover() }(); panic("x") }
`, output: "true"},
		{main: `for i := 0; i < 3; i++ { defer func(x int) { print(x, i) }(i) }; print("-")`, output: "-231303"},
		{main: `defer func() { print(recover()); print(recover() == "") }(); defer func() { panic("b") }(); panic("a")`, output: "btrue"},
		{main: `print(recover() == ""); func() { print(recover() == "") }(); x := recover(); print(x, "."); recover()`, output: "truetrue."},
		{main: `defer func() { func() { print(recover() == "") }(); print(recover()) }(); panic("a")`, output: "truea"},
		{main: `var h func(); h = func() { h() }; h()`, why: "fatal: stack overflow"},
		{main: `go func() { panic("g") }(); <-make(chan int)`, why: "panic: g"},
		{main: `for { go func() { <-make(chan int) }() }`, why: "fatal: too many goroutines"},
	} {
		r.file += told
		r.run(t)
	}
}

func TestChannels(t *testing.T) {
	for _, r := range []row{
		{main: `q := make(chan int); go func() { q <- 1; q <- 2; close(q) }(); print(<-q + <-q * 10, <-q)`, output: "210"},
		{main: `q := make(chan int); z := make(chan string); go func() { for i := 0; i < 2; i++ { select { case q <- 7: print("q"); case x := <-z: print(x) } } }(); z <- "z"; print(<-q)`, output: "z7"},
		{main: `select { case <-make(chan int): print(1); default: print(2) }`, output: "2"},
		{main: `var q chan int; select { case q <- 1: print(1); case <-q: print(2); default: print(3) }`, output: "3"},
		{main: `select { }`, why: "fatal: all goroutines are asleep"},
		{main: `q := make(chan *T, 1); select { case q <- nil: print(1) }; select { case x := <-q: print(x == nil) }; select { case q <- &T{n: 5}: }; select { case x := <-q: print(x.n) }`, output: "1true5"},
		{main: `q := make(chan int, 2); q <- 1; select { case q <- 2: print("s", len(q)) }; select { case <-q: print("r", len(q)) }`, output: "s2r1"},
		{main: `q := make(chan int); go n(1); go func() { q <- n(2) }(); <-q`, output: "n1n2"},
		{main: `q := make(chan int); go func() { <-q; print("r") }(); select { case q <- 1: x := 1; h := func() { x++ }; h(); print(x) }; q <- 2`, output: "r2", why: "fatal: all goroutines are asleep"},
		{main: `a := make(chan []int, 1); a <- []int{1, 2}; (<-a)[0]++; a <- nil; print(<-a == nil)`, output: "true"},
	} {
		r.file = told
		r.run(t)
	}
}

// TestSchedules runs sources that many schedules take elsewhere.
func TestSchedules(t *testing.T) {
	sources := []string{
		`func main() { q := make(chan int); for i := 0; i < 3; i++ { go func(x int) { for k := 0; k < 2; k++ { print(x); q <- x } }(i) }; for i := 0; i < 6; i++ { print(<-q) } }`,
		`var g int
func add(x int) { for i := 0; i < 3; i++ { y := g; g = y + x; print(g, " ") } }
func main() { go add(1); go add(10); add(100); for i := 0; i < 9; i++ { }; print(g) }`,
		`func main() { a := make(chan int, 1); b := make(chan int); go func() { for { select { case a <- 1: case x := <-b: print("b", x); case b <- 2: } } }(); for i := 0; i < 5; i++ { select { case x := <-a: print("a", x); case b <- i: case x := <-b: print("c", x); default: print("d") } } }`,
		`func main() { x := 0; done := make(chan bool); for i := 0; i < 2; i++ { go func() { for k := 0; k < 3; k++ { y := x; for z := 0; z < 1; z++ { }; x = y + 1; print(x) }; done <- true }() }; <-done; <-done; print("=", x) }`,
	}
	for _, src := range sources {
		outputs := map[string]int{}
		for seed := range 60 {
			chance := rand.New(rand.NewSource(int64(seed)))
			outputs[agree(t, src, schedule(chance, 60)).outcome.Output]++
		}
		if len(outputs) < 5 {
			t.Errorf("%s\n%v", src, outputs)
		}
	}
}

func schedule(chance *rand.Rand, most int) []int {
	var script []int
	for range chance.Intn(most) {
		script = append(script, chance.Intn(20)-1)
	}
	return script
}

func TestWrittenByChance(t *testing.T) {
	states, outputs := map[int]int{}, 0
	for seed := range 1000 {
		chance := rand.New(rand.NewSource(int64(seed)))
		src := written(chance, 10+seed%50)
		if src == "" {
			continue
		}
		for range 2 {
			outcome := agree(t, src, schedule(chance, 40)).outcome
			states[outcome.State]++
			outputs += len(outcome.Output)
		}
	}
	if states[api.Exited] < 1000 || states[api.Fatal] < 100 || outputs < 50000 {
		t.Errorf("%v, %d bytes of output", states, outputs)
	}
}
