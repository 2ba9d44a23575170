package walk_test

import "testing"

// told has functions that tell when they are called.
const told = `
type T struct {
	n int
	s string
	p *T
	l []int
}
var g int
var gp *T
var gl []int
func n(x int) int { print("n", x); return x }
func b(x bool) bool { print("b", x); return x }
func s(x string) string { print("s", x); return x }
func o(x *T) *T { print("o"); return x }
func l(x []int) []int { print("l"); return x }
func c(x chan int) chan int { print("c"); return x }
func f(x int) func(int, int) int { print("f", x); return func(a int, b int) int { print("("); return x*100 + a*10 + b } }
func up() int { g++; return g }
`

func TestClosures(t *testing.T) {
	runAll(t, told, []row{
		{main: `x := 1; f := func() { x *= 3 }; h := func() int { x++; return x }; f(); print(h()); f(); print(x); x = 0; print(h())`, output: "4121"},
		{main: `m := func() func() int { x := 10; return func() int { x++; return x } }; a := m(); b := m(); print(a(), a(), b(), a())`, output: "11121113"},
		{main: `var fs []func() int; for i := 0; i < 3; i++ { fs = append(fs, func() int { return i }) }; print(fs[0](), fs[1](), fs[2]())`, output: "333"},
		{main: `var fs []func() int; for i := 0; i < 3; i++ { fs = append(fs, func() int { i += 10; return i }); if i > 20 { break } }; print(fs[0](), fs[1]())`, output: "1323"},
		{main: `var fs []func() int; for i := 0; i < 3; i++ { j := i; fs = append(fs, func() int { j += 10; return j }) }; print(fs[0](), fs[0](), fs[1](), fs[2]())`, output: "10201112"},
		{main: `var fs []func() int; for i := 0; i < 3; i++ { var j int; j += i; fs = append(fs, func() int { return j }); j++ }; print(fs[0](), fs[1](), fs[2]())`, output: "123"},
		{main: `for i := 0; i < 6; i++ { h := func() { i += 2 }; h(); print(i) }`, output: "25"},
		{main: `f := func(x int) func() int { return func() int { x++; return x } }; a := f(1); b := f(1); print(a(), a(), b())`, output: "232"},
		{main: `x := 1; func() { x := x + 1; func() { x++; print(x) }(); print(x) }(); print(x)`, output: "331"},
		{main: `x := 1; func() { y := 2; func() { func() { x += y; y = x }() }(); print(x, y) }(); print(x)`, output: "333"},
		{main: `var fib func(int) int; fib = func(n int) int { if n < 2 { return n }; return fib(n-1) + fib(n-2) }; print(fib(15))`, output: "610"},
		{main: `print(fac(10)); h := fac; print(" ", h(5))`, file: "func fac(n int) int { if n == 0 { return 1 }; return n * fac(n-1) }\n", output: "3628800 120"},
		{main: `s := "a"; p := new(T); q := []int{1}; h := func() { s += "b"; p = &T{n: 4}; q = append(q, 2) }; h(); h(); print(s, p.n, len(q))`, output: "abb43"},
		{main: `h := func(a int, b string, p *T) string { k := func() { a++; b += "!"; p = &T{n: a, p: p} }; k(); k(); print(a, p.n, p.p.n, p.p.p == nil); return b }; print(h(1, "x", nil))`, output: "332truex!!"},
		{main: `var h func() int; x := 5; if x > 1 { x := 7; h = func() int { x++; return x } }; print(h(), h(), x)`, output: "895"},
		{main: `var a func(); var b func(); x := 0; a = func() { x++; if x < 5 { b() } }; b = func() { x += 10; a() }; a(); print(x)`, output: "12"},
		{main: `c := make(chan func() int, 2); x := 0; c <- func() int { x++; return x }; c <- func() int { x += 5; return x }; a := <-c; b := <-c; print(a(), b(), a())`, output: "167"},
		{main: `h := n; h = func(x int) int { return x + 1 }; print(h(1)); h = n; print(h(2))`, output: "2n22"},
		{main: `for i := 0; i < 2; i++ { x := 0; for j := 0; j < 2; j++ { func() { x += j + 1 }() }; print(x) }`, output: "33"},
		{main: `q := make(chan int, 2); q <- 3; q <- 4; var fs []func() int; for i := 0; i < 2; i++ { select { case x := <-q: fs = append(fs, func() int { x++; return x }) } }; print(fs[0](), fs[0](), fs[1]())`, output: "455"},
		{main: `for i := 0; i < 3; x := i * 2 { print(x); i++ }`, output: "024"},
		{main: `for i := 0; i < 3; x := i * 2 { func() { print(x) }(); i++ }`, output: "024"},
	})
}

func TestBranches(t *testing.T) {
	runAll(t, told, []row{
		{main: `if g == 0 { print(1) }; if g == 1 { print(2) } else { print(3) }; if g == 1 { print(4) } else if g == 0 { print(5) } else { print(6) }; if g == 1 { print(7) } else if g == 2 { print(8) }`, output: "135"},
		{main: `for i := 0; i < 3; i++ { print(i) }; i := 5; for i > 3 { i--; print(i) }; for { i++; if i > 4 { break } }; print(i)`, output: "012435"},
		{main: `for ; g < 2; { print(up()) }; for i := 0; ; i++ { if i == 1 { continue }; if i > 2 { break }; print(i) }; for i := 0; i < 2; { i++; print(i) }`, output: "120212"},
		{main: `a: for i := 0; i < 3; i++ { for j := 0; j < 3; j++ { if j == 2 { continue a }; if i == 2 { break a }; print(i, j, " ") } }`, output: "00 01 10 11 "},
		{main: `a: for i := 0; i < 3; i++ { b: for j := 0; ; j++ { switch { case j == 1: continue b; case j == 3: break b; case i == 1: continue a }; print(i, j, " ") }; print(".") }`, output: "00 02 .20 22 ."},
		{main: `a: for i := 0; i < 5; i++ { switch i { case 1: continue; case 2: break; case 3: break a; default: print("d") }; print(i) }`, output: "d02"},
		{main: `a: switch { default: for { switch { default: break a } } }; b: select { default: for { break b } }; print("ok")`, output: "ok"},
		{main: `a: for { select { default: for { break a } } }; for i := 0; i < 3; i++ { select { default: if i == 1 { continue }; if i == 2 { break }; print(i) }; print("-") }`, output: "0--"},
		{main: `switch 3 { case 1, 2: print("a"); case 3, 4: print("b"); case 3: print("c") }; switch 9 { case 1: print("d") }; switch { case g == 1: print("e"); case g == 0: print("f"); case true: print("h") }`, output: "bf"},
		{main: `switch 2 { default: print("d"); case 2: print(2) }; switch 5 { case 1: print(1); default: print("e"); case 2: print(2) }; switch 5 { case 1: print(1); case 2: print(2); default: print("f") }`, output: "2ef"},
		{main: `switch 1 { case 1: print(1); fallthrough; case 7: print(7); fallthrough; case 8: print(8); case 9: print(9) }`, output: "178"},
		{main: `switch 5 { case 1: print(1); default: print("d"); fallthrough; case 2: print(2); case 3: print(3) }; switch 5 { default: print("e"); fallthrough; case 4: print(4) }; switch 4 { case 4: print(4); fallthrough; default: print("f"); fallthrough; case 6: print(6) }`, output: "d2e44f6"},
		{main: `switch n(2) { case 1: fallthrough; case n(3): print("no"); case n(2): fallthrough; case n(4): print("yes") }`, output: "n2n3n2yes"},
		{main: `switch "b" + s("c") { case "b": print(1); case s("bc"): print(2) }; switch true { case b(false): print(3); case b(true): print(4) }`, output: "scsbc2bfalsebtrue4"},
		{main: `p := new(T); q := p; switch p { case nil: print(1); case new(T): print(2); case q: print(3) }; p = nil; switch p { case q: print(4); case nil: print(5) }; d := make(chan int); switch d { case nil, make(chan int): print(6); case d: print(7) }`, output: "357"},
		{main: `switch n(1) { }; switch { }; switch { default: }; select { default: }; if true { }; for false { }; { }; print("ok")`, output: "n1ok"},
		{main: `switch g { case up(): print("no"); case 0: print("once") }`, output: "once"},
		{main: `x := 1; { x := 2; x++; print(x) }; print(x); if true { x := 5; print(x) }; for x := 7; x < 8; x++ { print(x) }; switch { case true: x := 9; print(x) }; print(x)`, output: "315791"},
		{main: `for i := 0; i < 3; i++ { var x int; var t string; var p *T; x += i; t += "a"; print(x, t, p == nil); p = new(T); x = 9 }`, output: "0atrue1atrue2atrue"},
		{main: `for i := 0; i < 2; i++ { switch { case i == 0: x := 4; print(x); default: var x int; print(x) } }`, output: "40"},
		{main: `print(h(1), h(2), h(3))`, file: `func h(x int) string { switch x { case 1: return "a"; case 2: for { return "b" } }; return "c" }`, output: "abc"},
		{main: `h(); print("m")`, file: `func h() { print(1); return; print(2) }`, output: "1m"},
		{main: `print(h(4))`, file: `func h(x int) int { for i := 0; ; i++ { for j := 0; j < i; j++ { if i*j == x*3 { return i * 10 + j } } } }`, output: "43"},
		{main: `v := 1; v = 2; var w int = v; var z int; z = w + v; print(v, w, z); vs := "q"; vs = vs + "r"; print(vs)`, output: "224qr"},
		{main: `g = 3; up(); print(g); h()`, file: `func h() { g *= 2; print(g) }`, output: "48"},
		{main: `q := make(chan int, 1); for q <- 1; len(q) > 0; <-q { print(len(q)) }; for n(5); g < 2; up() { print(g) }; for t := "a"; t < "aaa"; t += "a" { print(t) }`, output: "1n501aaa"},
	})
}

func TestOrder(t *testing.T) {
	runAll(t, told, []row{
		{main: `x := n(1) + n(2) * n(3) - n(4); print(" ", x)`, output: "n1n2n3n4 3"},
		{main: `x := n(8) / n(4) % n(3); y := -n(5); print(" ", x, y)`, output: "n8n4n3n5 2-5"},
		{main: `print(n(1) < n(2), n(1) > n(2), n(2) <= n(1), n(2) >= n(1), n(1) == n(2), n(1) != n(2))`, output: "n1n2n1n2n2n1n2n1n1n2n1n2truefalsefalsetruefalsetrue"},
		{main: `print(s("a") < s("b"), s("a") > s("b"), s("a") >= s("a"), s("b") <= s("a"), s("a") == s("b"), s("a") != s("b"), s("a") + s("b"))`, output: "sasbsasbsasasbsasasbsasbsasbtruefalsetruefalsefalsetrueab"},
		{main: `print(b(true) && b(false), b(false) && b(true), b(true) || b(false), b(false) || b(true))`, output: "btruebfalsebfalsebtruebfalsebtruefalsefalsetruetrue"},
		{main: `print(b(false) || b(false) || b(true), b(true) && b(true) && b(false), !b(true) || !b(false))`, output: "bfalsebfalsebtruebtruebtruebfalsebtruebfalsetruefalsetrue"},
		{main: `print(b(true) || b(false) && b(true), (b(true) || b(false)) && b(false))`, output: "btruebtruebfalsetruefalse"},
		{main: `if gp != nil && gp.n == 1 || len(gl) == 0 || gl[5] == 1 { print("ok") }`, output: "ok"},
		{main: `print(n(1), n(2)); print(n(3))`, output: "n1n212n33"},
		{main: `print(1, n(2), 1/g)`, output: "n2", why: "panic: divide by zero"},
		{main: `l([]int{n(5), n(6)})[n(1)] = n(9)`, output: "n5n6ln1n9"},
		{main: `l([]int{n(5), n(6)})[n(1)] += n(9)`, output: "n5n6ln1n9"},
		{main: `l(nil)[n(1)] = n(9)`, output: "ln1n9", why: "panic: index out of range"},
		{main: `l(nil)[n(1)] += n(9)`, output: "ln1", why: "panic: index out of range"},
		{main: `l(nil)[n(1)]++`, output: "ln1", why: "panic: index out of range"},
		{main: `o(nil).n = n(1)`, output: "on1", why: "panic: nil dereference"},
		{main: `o(nil).n -= n(1)`, output: "o", why: "panic: nil dereference"},
		{main: `o(nil).n--`, output: "o", why: "panic: nil dereference"},
		{main: `l(o(nil).l)[n(1)] = n(2)`, output: "o", why: "panic: nil dereference"},
		{main: `gl = []int{1, 2}; h := func() int { gl = []int{7, 8}; return 5 }; gl[0] = h(); print(gl[0])`, output: "7"},
		{main: `gl = []int{1, 2}; a := gl; h := func() int { gl = nil; return 5 }; gl[0] += h(); print(a[0], len(gl))`, output: "60"},
		{main: `gp = &T{n: 1}; q := gp; h := func() int { gp = nil; return 5 }; gp.n = h(); print(q.n, gp == nil)`, output: "5true"},
		{main: `i := 0; a := []int{1, 2}; h := func() int { i = 1; return 9 }; a[i] = h(); print(a[0], a[1])`, output: "92"},
		{main: `i := 0; a := []int{1, 2}; h := func() int { a[0] = 40; return 9 }; a[i] += h(); print(a[0])`, output: "10"},
		{main: `x := g + up() + g; print(x, g)`, output: "21"},
		{main: `x := 1; h := func() int { x *= 10; return x }; print(x + h() + x, x); x += h(); print(" ", x); x = x + h() - x; print(" ", x)`, output: "2110 110 110"},
		{main: `g += up() + up(); print(g)`, output: "3"},
		{main: `a := "a"; h := func() string { a += "b"; return a }; a += h() + a; print(a)`, output: "aabab"},
		{main: `print(f(n(1))(n(2), n(3)))`, output: "n1f1n2n3(123"},
		{main: `defer f(n(1))(n(2), n(3)); print("-")`, output: "n1f1n2n3-("},
		{main: `go f(n(1))(n(2), n(3)); print("-"); <-make(chan int)`, output: "n1f1n2n3-(", why: "fatal: all goroutines are asleep"},
		{main: `h := n; k := func() int { h = nil; return 4 }; print(h(k()), h == nil)`, output: "n44true"},
		{main: `x := 1; defer n(x); x = 2; defer func(y int) { print(x, y) }(x); x = 3`, output: "32n1"},
		{main: `var h func(int); h(n(1))`, output: "n1", why: "panic: call of nil function"},
		{main: `var h func(int); go h(n(1))`, output: "n1", why: "panic: call of nil function"},
		{main: `var h func(int); defer print2(); defer h(n(1)); print("no")`, file: `func print2() { print("d") }`, output: "n1d", why: "panic: call of nil function"},
		{main: `c(make(chan int, n(1))) <- n(2)`, output: "n1cn2"},
		{main: `x := &T{l: l([]int{n(1)}), n: n(2), s: s("a")}; print(x.n, x.s, len(x.l), x.p == nil)`, output: "n1ln2sa2a1true"},
		{main: `print(l([]int{1, 2, 3})[n(1):n(3)][n(0)], s("abc")[n(1):n(2)], l(nil)[:n(0)] == nil)`, output: "ln1n3n0sabcn1n2ln02btrue"},
		{main: `x := append(l([]int{n(1)}), n(2), n(3)); print(len(x), cap(x)); y := []int{n(4), up(), up()}; print(y[1], y[2])`, output: "n1ln2n333n412"},
		{main: `y := []int{g, up(), g, up(), g}; print(y[0], y[1], y[2], y[3], y[4])`, output: "01122"},
		{main: `x := &T{n: g, p: &T{n: up()}, l: []int{g}}; print(x.n, x.p.n, x.l[0])`, output: "011"},
		{main: `switch n(2) { case n(1), n(2), n(7): print("!"); case n(3): print("?") }`, output: "n2n1n2!"},
		{main: `switch { case b(false), b(true), b(true): print("!"); case b(true): print("?") }`, output: "bfalsebtrue!"},
		{main: `switch n(4) { default: print("d"); case n(1): print(1); case n(2): print(2) }`, output: "n4n1n2d"},
		{main: `select { case c(make(chan int, 1)) <- n(1): print("s"); case <-c(nil): print("r"); case x := <-c(nil): print(x) }`, output: "cn1ccs"},
		{main: `for i := n(0); i < n(2); i += n(1) { print("-") }`, output: "n0n2-n1n2-n1n2"},
		{main: `if n(1) == n(2) { print("?") } else if n(3) == n(3) { print("!") } else { print("?") }`, output: "n1n2n3n3!"},
	})
}

func TestDeferredCalls(t *testing.T) {
	runAll(t, told, []row{
		{main: `defer n(1); defer n(2); for i := 3; i < 6; i++ { defer n(i) }; print("m")`, output: "mn5n4n3n2n1"},
		{main: `print(h()); print(k())`, file: `func h() int { defer n(1); return n(2) }
func k() int { x := 1; defer func() { x = 5 }(); return x }`, output: "n2n121"},
		{main: `h(); print("m")`, file: `func h() { defer n(1); if true { defer n(2); return }; defer n(3) }`, output: "n2n1m"},
		{main: `func() { defer n(1); func() { defer n(2); print("i") }(); print("o") }(); print("m")`, output: "in2on1m"},
		{main: `defer func() { defer n(1); defer func() { defer n(2); n(3) }(); n(4) }(); n(5)`, output: "n5n4n3n2n1"},
		{main: `defer func() int { return n(9) }(); n(1)`, output: "n1n9"},
		{main: `x := 1; defer func() { print(x) }(); x = 2; defer func(y int) { print(y, ",") }(x); x = 3`, output: "2,3"},
		{main: `defer n(1); defer func() { panic("b") }(); defer n(2); panic("a")`, output: "n2n1", why: "panic: b"},
		{main: `defer n(1); panic("a")`, output: "n1", why: "panic: a"},
		{main: `defer n(1); h()`, file: `func h() { defer n(2); k(); print("no") }
func k() { defer n(3); panic("deep"); print("no") }`, output: "n3n2n1", why: "panic: deep"},
		{main: `defer n(1); select { }`, why: "fatal: all goroutines are asleep"},
		{main: `func() { for i := 0; i < 300; i++ { defer func() { g++ }() } }(); print(g)`, output: "300"},
	})
}

func TestPanicsAndRecover(t *testing.T) {
	runAll(t, told, []row{
		{main: `panic("a" + "b")`, why: "panic: ab"},
		{main: `panic("")`, why: "panic: "},
		{main: `print("x"); panic(s("y")); print("z")`, output: "xsy", why: "panic: y"},
		{main: `defer func() { print("!", recover(), "!") }(); panic("a")`, output: "!a!"},
		{main: `defer func() { print("!", recover(), "!", recover(), "!") }(); panic("a")`, output: "!a!!"},
		{main: `print(recover() == "", recover()); recover(); print("m")`, output: "truem"},
		{main: `defer func() { print("[", recover(), "]") }(); print("m")`, output: "m[]"},
		{main: `defer func() { func() { print("[", recover(), "]") }() }(); panic("a")`, output: "[]", why: "panic: a"},
		{main: `defer h(); panic("a")`, file: `func h() { print("[", recover(), "]") }`, output: "[a]"},
		{main: `defer k(); panic("a")`, file: `func h() string { return recover() }
func k() { print("[", h(), "]") }`, output: "[]", why: "panic: a"},
		{main: `defer func() { print("[", recover(), "]") }(); defer func() { defer func() { print("(", recover(), ")") }() }(); panic("a")`, output: "()[a]"},
		{main: `defer func() { print("[", recover(), "]") }(); defer func() { defer func() { print("(", recover(), ")") }(); panic("b") }(); panic("a")`, output: "(b)[a]"},
		{main: `defer func() { print("[", recover(), "]") }(); defer func() { panic("b") }(); panic("a")`, output: "[b]"},
		{main: `defer func() { print("[", recover(), "]") }(); defer func() { print("(", recover(), ")"); panic("c") }(); panic("a")`, output: "(a)[c]"},
		{main: `defer func() { print("1", recover()) }(); defer func() { print("2", recover()) }(); panic("a")`, output: "2a1"},
		{main: `func() { defer func() { recover() }(); panic("a") }(); print("on"); panic("b")`, output: "on", why: "panic: b"},
		{main: `print(h(), k(), q() == nil, r() == "", v())`, file: `func h() int { defer func() { recover() }(); panic("a") }
func k() int { defer func() { recover() }(); x := 5; x = x / g; return x }
func q() *T { defer func() { recover() }(); p := new(T); return p.p.p }
func r() string { defer func() { recover() }(); return "a"[1:3] }
func v() bool { defer func() { recover() }(); if g == 0 { panic("v") }; return true }`, output: "00truetruefalse"},
		{main: `print(h())`, file: `func h() int { defer func() { print(recover()) }(); defer func() { print(recover()); panic("late") }(); panic("first") }`, output: "firstlate0"},
		{main: `x := 1; func() { defer func() { print(recover(), x) }(); x = 2; x = 10 / g; x = 3 }(); print(x)`, output: "divide by zero22"},
		{main: `func() { defer func() { print(recover()) }(); h() }(); print("m")`, file: `func h() { defer n(1); k() }
func k() { defer n(2); panic("x") }`, output: "n2n1xm"},
		{main: `for i := 0; i < 3; i++ { func() { defer func() { print(recover()) }(); if i == 1 { panic("p") }; print(i) }() }`, output: "0p2"},
		{main: `h(3)`, file: `func h(x int) { defer func() { if x == 2 { print("r", recover()) } else { print("d", x) } }(); if x == 0 { panic("z") }; h(x - 1); print("b", x) }`, output: "d0d1rzb3d3"},
		{main: `defer func() { print(recover()) }(); var f func(); defer f(); print("no")`, output: "call of nil function"},
		{main: `defer func() { print(recover()) }(); var f func(); go f()`, output: "call of nil function"},
		{main: `defer func() { print(recover()) }(); var c chan int; close(c)`, output: "close of nil channel"},
		{main: `defer func() { print(recover()) }(); c := make(chan int); close(c); close(c)`, output: "close of closed channel"},
		{main: `defer func() { print(recover()) }(); c := make(chan int, 5); close(c); c <- 1`, output: "send on closed channel"},
		{main: `defer func() { print(recover()) }(); a := make([]int, 2000)`, output: "bad length"},
		{main: `defer func() { print(recover()) }(); gp.n = 1`, output: "nil dereference"},
		{main: `defer func() { print(recover()) }(); gl[0] = 1`, output: "index out of range"},
		{main: `defer func() { print(recover()) }(); gl = gl[1:]`, output: "slice bounds out of range"},
		{main: `c := make(chan string); go func() { defer func() { c <- recover() }(); panic("in") }(); print(<-c)`, output: "in"},
		{main: `go func() { panic("in") }(); <-make(chan int)`, why: "panic: in"},
		{main: `go func() { defer n(1); h() }(); <-make(chan int)`, file: `func h() { defer n(2); g = 1 / g }`, output: "n2n1", why: "panic: divide by zero"},
		{main: `defer func() { recover() }(); go func() { panic("in") }(); <-make(chan int)`, why: "panic: in"},
		{main: `defer func() { r := func() string { return recover() }; print("[", r(), "]", recover()) }(); panic("a")`, output: "[]a"},
		{main: `f := func() { print("[", recover(), "]") }; f(); defer f(); func() { defer f(); panic("i") }(); print("m")`, output: "[][i]m[]"},
	})
}

// TestReturnedThenPanicking asks that a function which was panicking at some time answers the zero value, even if it had returned another one.
func TestReturnedThenPanicking(t *testing.T) {
	const file = `
func say() { print(recover(), ";") }
func late() { panic("late") }
func inner() { defer say(); panic("in") }
`
	runAll(t, told+file, []row{
		{main: `print(h())`, file: `func h() int { defer say(); defer late(); return 5 }`, output: "late;0"},
		{main: `print(h())`, file: `func h() bool { defer say(); defer late(); return true }`, output: "late;false"},
		{main: `print(h(), ".")`, file: `func h() string { defer say(); defer late(); return "v" }`, output: "late;."},
		{main: `print(h() == nil)`, file: `func h() *T { defer say(); defer late(); return new(T) }`, output: "late;true"},
		{main: `print(h() == nil, len(h()))`, file: `func h() []int { defer say(); defer late(); return []int{1} }`, output: "late;late;true0"},
		{main: `print(h() == nil)`, file: `func h() chan int { defer say(); defer late(); return make(chan int) }`, output: "late;true"},
		{main: `print(h() == nil)`, file: `func h() func() { defer say(); defer late(); return late }`, output: "late;true"},
		{main: `print(func() int { defer say(); defer late(); return 5 }())`, output: "late;0"},
		{main: `print(h())`, file: `func h() int { defer say(); return 5 }`, output: ";5"},
		{main: `print(h())`, file: `func h() int { defer say(); defer inner(); return 5 }`, output: "in;;5"},
		{main: `print(h())`, file: `func h() int { defer say(); defer func() int { defer say(); defer late(); return 7 }(); return 5 }`, output: "late;;5"},
		{main: `print(h())`, file: `func h() int { defer say(); defer late(); defer say(); defer late(); return 5 }`, output: "late;late;0"},
		{main: `print(h())`, file: `func h() int { defer say(); defer n(1); defer say(); defer late(); return 5 }`, output: "late;n1;0"},
		{main: `print(h())`, file: `func h() int { defer inner(); defer say(); defer late(); return n(5) }`, output: "n5late;in;0"},
		{main: `print(h())`, file: `func h() int { defer say(); defer func() { gl[0] = 1 }(); return 5 }`, output: "index out of range;0"},
		{main: `print(h())`, file: `func h() int { defer say(); return k() }
func k() int { defer late(); return 5 }`, output: "late;0"},
		{main: `print(h())`, file: `func h() int { defer k(); return 5 }
func k() int { defer say(); defer late(); return 6 }`, output: "late;5"},
		{main: `print(h()); print("no")`, file: `func h() int { defer late(); defer say(); return 5 }`, output: ";", why: "panic: late"},
		{main: `x := 3; x = h(); print(x)`, file: `func h() int { defer say(); defer late(); return 5 }`, output: "late;0"},
		{main: `c := make(chan int); go func() { c <- h() }(); print(<-c)`, file: `func h() int { defer say(); defer late(); return 5 }`, output: "late;0"},
	})
}
