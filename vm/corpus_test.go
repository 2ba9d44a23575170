package vm_test

// group are things that main may do in a file.
type group struct {
	file  string
	mains []string
}

// told has functions that tell that they are called, and a thing of each kind for them.
const told = `
type E struct { }
type T struct { n int; b bool; s string; p *T; l []int; c chan int; f func() int; }
type R struct { s string; p *T; q []*T; r *R; }
var g int
var gs string
var gp *T
var gl []int
var gr []string
var gc chan string
var gf func(int) int
func n(x int) int { print("n", x); return x }
func s(x string) string { print("s", x); return x }
func b(x bool) bool { print("b", x); return x }
func o(x *T) *T { print("o"); return x }
func l(x []int) []int { print("l"); return x }
func c(x chan int) chan int { print("c"); return x }
func up() int { g++; return g }
func least() int { x := 1; for i := 0; i < 63; i++ { x *= 2 }; return x }
func long() string { x := "a"; for i := 0; i < 14; i++ { x += x }; return x }
func full(k int) []int { a := make([]int, 1024); for len(a) < k { a = append(a, 7) }; return a }
func say() { print("(", recover(), ")") }
func late() { panic("la" + "te") }
func settle() { d := make(chan int); go func() { d <- 1 }(); <-d }
`

// corpus has every kind of statement and expression, and every message.
var corpus = []group{
	{told, []string{ // numbers and bools
		`print(least(), " ", least() - 1, " ", -least(), " "); print(least() / (-1), " ", least() % (-1), " ", least() * 3)`,
		`print(7 / 2, -7 / 2, 7 / (-2), 7 % 2, -7 % 2, 7 % (-2), 0 / 5, 1 - 2 - 3)`,
		`x := 7; x += 3; x -= 4; x *= 5; x++; x--; print(x, -x, 2 + 3 * 4)`,
		`print(1 < 2, 2 <= 1, 1 == 1, 1 != 1, 2 > 1, 1 >= 2, !true, true == false)`,
		`print(b(true) && b(false), b(false) && b(true), b(true) || b(false), b(false) || b(true))`,
		`print(1); print(1 / g)`, `print(5 % g)`, `x := n(1) + n(2) * n(3) - n(4); print(" ", x)`,
		`y := []int{g, up(), g, up(), g}; print(y[0], y[1], y[2], y[3], y[4])`, `x := g + up() + g; print(x, g)`, `print(999999999999999999 * 10)`,
	}},
	{told, []string{ // strings
		`print("a" < "b", "b" < "a", "a" <= "a", "a" < "ab", "" < "a", "ab" == "a" + "b", "ab" != "a" + "b", "b" > "ab"); print("a" >= "b", "" <= "")`,
		`x := "abc"; print(x[1:2], x[:1], x[2:], x[:], x[3:] == "", x[0], x[2], len(x)); print(len(x[1:] + x))`,
		`x := "abcdefghi" + "jklmnopq"; for i := 0; i < len(x); i++ { print(x[i], ","); print(x[i:], x[:i], x[i:i+1]) }`,
		`x := ""; for i := 0; i < 40; i++ { x += "ab"; print(len(x), x[len(x)-1], x[i:i+2] == "ab", x[i:i+2] == "ba") }; print(x)`,
		`var x string; print(x, len(x), x == "", x + "x"); x += "y"; print(x); gs = x + x; print(gs, gs[1], len(gs))`,
		`x := "abcdef" + ""; y := x[1:5]; z := y[1:3]; x = "x"; print(y, z, z[0], len(z))`,
		`for i := 0; i < 3; i++ { print("abc"[i], "xyz"[i], "klm"[i], "uvw"[i], "rst"[i], " "); print("mno"[i:], "def"[:i], len("ghij"), "pq" + "jk", "hi" < "hj", " ") }`,
		`print("abc"[3])`, `x := "abc" + "d"; print(x[4])`, `x := "abc" + "d"; print(x[-1])`, `print(gs[0])`, `x := "abcdefg" + "h"; print(x[7]); print(x[8])`,
		`x := "abc" + "d"; print(x[2:1])`, `x := "abc" + "d"; print(x[:5])`, `print("abc"[4:])`, `x := "abc" + "d"; print(x[-1:])`, `print(gs[:1])`,
		`print(len(long()), len(long() + ""), len("" + long()), len(long()[1:] + "b"), long()[16383])`, `x := long() + "b"`, `x := "b" + long()`, `x := long()[1:] + "b"; print(x[16382], x[16383]); defer say(); x += "c"`,
		`print(long()[1:] < long(), long() < long()[1:], long()[1:] + "b" > long(), long() == long(), long() == long()[1:] + "b")`,
		`switch "a" + "b" { case "ab"[:1], "x": print(1); case "abc"[:2]: print(2); fallthrough; case "z": print(3); default: print(4) }`,
	}},
	{told, []string{ // slices
		`a := make([]int, 3); print(a[0], len(a), cap(a)); b := make([]string, 1); print(b[0] == ""); d := make([][]int, 1); print(d[0] == nil, len(d[0]))`,
		`a := []int{1, 2, 3, 4, 5}; b := a[1:3]; b[0] = 9; a[2] = 8; print(a[1], b[1], len(b), cap(b)); d := b[1:4]; d[2] = 7; print(a[4], len(d), cap(d))`,
		`a := []int{1, 2, 3, 4}; b := append(a[:1], 7); print(a[1], len(b), cap(b)); d := append(a[:2], 8, 9); print(a[2], a[3], len(d)); e := append(a[:3], 5, 6); e[0] = 0; print(a[0], len(e), cap(e))`,
		`var a []int; for i := 0; i < 40; i++ { a = append(a, i); print(len(a), cap(a)) }; for i := 0; i < 40; i++ { print(a[i]) }`,
		`a := []int{}; print(a == nil, len(a), cap(a)); b := make([]int, 0); print(b == nil, gl == nil); print(append(gl) == nil, append(a) == nil, gl[:] == nil, gl[0:0] == nil, a[:] == nil)`,
		`a := []*T{new(T), nil}; b := append(a, &T{n: 4}); a[0].n = 3; print(b[0].n, b[2].n, b[1] == nil, cap(b), b[:4][3] == nil)`,
		`a := [][]int{[]int{1}, nil}; a[0][0]++; a[1] = append(a[1], 5); d := a[0]; d[0]++; print(a[0][0], a[1][0], len(a))`,
		`a := []string{"x", "y"}; a[0] += a[1]; d := append(a, a[0] + "z"); print(d[0], d[2], d[:4][3] == "")`,
		`a := []bool{true, false}; a[1] = !a[1]; a = append(a, false); print(a[0], a[1], a[2], a[:4][3])`,
		`a := []func() int{func() int { return 4 }, nil}; print(a[0](), a[1] == nil); a = append(a, func() int { return up() }); print(a[2](), a[2]())`,
		`a := []chan int{make(chan int, 1), nil}; a[0] <- 5; a = append(a, a[0]); print(<-a[2], len(a[1]))`,
		`a := []int{1, 2, 3}; print(a[3])`, `a := []int{1, 2, 3}[:2]; a[2] = 1`, `a := []int{1}; a[-1]++`, `gl[0] = 1`, `print(gl[0])`, `a := []int{}; print(a[0])`,
		`a := []int{1, 2, 3}; a = a[2:1]`, `a := []int{1, 2, 3}; a = a[:4]`, `a := []int{1, 2, 3}; a = a[-1:]`, `gl = gl[0:1]`, `a := []int{1, 2, 3}[:1]; a = a[2:]`,
		`a := make([]int, 1024); print(len(a), a[1023]); a = make([]int, 1025)`, `a := make([]int, -1)`, `a := make(chan int, 1025)`, `a := make(chan int, -1)`,
		`a := full(16384); print(len(a), " ", cap(a)); a[16383] = 1; d := append(a); print(len(d)); a = append(a, 1)`, `a := full(16383); a = append(a, 5, 6)`, `a := full(9000)[1:]; print(cap(a)); a = a[:16383]; a = append(a, 3); print(" ", len(a), " ", cap(a), a[16383])`,
		`l([]int{n(5), n(6)})[n(1)] = n(9)`, `l([]int{n(5), n(6)})[n(1)] += n(9)`, `l(nil)[n(1)] = n(9)`, `l(nil)[n(1)]++`, `gl = []int{1, 2}; h := func() int { gl = []int{7, 8}; return 5 }; gl[0] = h(); print(gl[0])`,
	}},
	{told, []string{ // objects
		`p := new(T); print(p.n, p.b, p.s == "", p.p == nil, p.l == nil, p.c == nil, p.f == nil)`,
		`p := &T{s: "a" + "b", n: 4, l: []int{6}, f: func() int { return 7 }, c: make(chan int, 8), b: true}; print(p.n, p.s, p.l[0], p.f(), cap(p.c), p.b, p.p == nil)`,
		`p := &T{n: 1}; q := p; q.n++; p.n *= 5; p.s += "x"; q.s += "y"; print(p.n, q.n, p.s, p == q, p != q, &T{n: 1} == &T{n: 1})`,
		`p := new(E); q := new(E); print(p == q, p == p, p != nil, nil == p, &E{} == &E{})`,
		`p := &T{n: 1}; for i := 0; i < 50; i++ { p = &T{n: i, p: p, s: "s" + "t"} }; k := 0; for p != nil { k += p.n; print(p.s); p = p.p }; print(k)`,
		`r := &R{s: "a", p: &T{n: 5}, q: []*T{new(T), &T{n: 3}}}; r.r = r; r.q[0].n = r.r.r.p.n + r.q[1].n; print(r.q[0].n, r.r.s)`,
		`gp.n = 1`, `print(gp.n)`, `gp.s += "a"`, `p := &T{}; p.p.p = p`, `p := &T{}; p.f()`, `p := &T{}; p.l[0] = 1`, `p := &T{}; close(p.c)`, `o(nil).n = n(1)`, `o(nil).n -= n(1)`,
	}},
	{told, []string{ // functions, closures, deferred calls, panics
		`x := 1; f := func() { x++ }; f(); f(); print(x)`, `f := func(k int) func() int { return func() int { k++; return k } }; a := f(4); d := f(9); a(); print(a(), d(), a())`,
		`var f func(int) int; f = func(k int) int { if k < 2 { return k }; return f(k-1) + f(k-2) }; print(f(10))`, `gf = n; print(gf(4), gf == nil); gf = nil; print(gf == nil); gf(1)`,
		`x := "a"; y := []int{1}; z := &T{n: 1}; f := func() func() { return func() { x += "b"; y = append(y, len(x)); z = &T{n: z.n + 1, p: z} } }; for i := 0; i < 5; i++ { f()() }; print(x, len(y), y[5], z.n, z.p.p.n)`,
		`for i := 0; i < 3; i++ { k := i; defer func() { print(k, i) }() }; print("m")`, `defer n(1); defer n(2); for i := 3; i < 6; i++ { defer n(i) }`, `x := 1; defer func(y int) { print(x, y) }(x); x = 2`,
		`func() { defer say(); panic("a" + "b") }(); print("on"); panic("c" + "d")`, `defer say(); defer func() { panic("b") }(); panic("a")`, `defer func() { say() }(); panic("a")`, `print(recover() == ""); defer func() { print(recover(), recover()) }(); panic("p")`,
		`h := func() int { defer say(); defer late(); return 5 }; print(h())`, `h := func() string { defer say(); return "x" + "y" }; print(h())`, `h := func() *T { defer say(); defer late(); return new(T) }; print(h() == nil)`,
		`h := func() []int { defer func() { for i := 0; i < 9; i++ { gl = []int{i} } }(); return []int{1, 2} }; print(h()[1])`, `var f func(); defer f()`, `var f func(); go f()`, `gf(n(1))`, `defer say(); gf(n(1))`,
		`defer say(); gp.n = 1`, `defer say(); gl[0] = 1`, `defer say(); gl = gl[1:]`, `defer say(); a := make([]int, 2000)`, `defer say(); print(1 / g)`, `defer say(); var d chan int; close(d)`,
		`var f func(int); f = func(k int) { if k > 0 { f(k-1) } }; f(58); print("a"); f(59)`, `var f func(int); f = func(k int) { defer func() { if k > 0 { f(k-1) } }() }; f(28); print("ok"); f(29)`,
		`switch n(2) { case n(1), n(2): print("!"); fallthrough; case n(3): print("?"); default: print("d") }`, `switch { case b(false): print(1); default: print(2); case b(true): print(3) }`, `switch gp { case nil: print("nil"); default: print("no") }`,
		`L: for i := 0; i < 4; i++ { for k := 0; ; k++ { if k == i { continue L }; if k == 2 { break L }; print(i, k, " ") } }`, `for i := n(0); i < n(2); i += n(1) { print("-") }`, `if n(1) == n(2) { print("?") } else if n(3) == n(3) { print("!") }`,
		`for i := 0; i < 3; x := i { if i > 0 { print(x) }; i++ }`, `for i := 0; i < 3; x := "v" + "w" { f := func() { x += "!"; print("[", x, "]") }; f(); i++ }`,
		`for { print("abcdefgh" + "ijklmnop") }`, `print(long(), long(), long(), long()[1:]); print("b", "c")`, `x := 0; for i := 0; i < 200; i++ { f := func() int { x += i; return x }; f() }; print(x)`,
	}},
	{told, []string{ // goroutines and channels
		`d := make(chan int); go func() { for i := 0; i < 5; i++ { d <- i; print("s") }; close(d) }(); for i := 0; i < 7; i++ { print(<-d) }`,
		`d := make(chan string, 2); go func() { for i := 0; i < 6; i++ { d <- "ab"[:1] + "c"; print("+") }; close(d) }(); for { x := <-d; if x == "" { break }; print("-", x) }`,
		`d := make(chan *T, 1); p := &T{n: 1}; d <- p; p.n = 2; q := <-d; print(q.n, p == q); d <- nil; print(<-d == nil)`, `d := make(chan chan string, 1); e := make(chan string); d <- e; go func() { (<-d) <- "x" + "y" }(); print(<-e)`,
		`d := make(chan func() int, 3); for i := 0; i < 3; i++ { k := i; d <- func() int { k++; return k } }; close(d); for i := 0; i < 3; i++ { f := <-d; print(f(), f()) }; print(<-d == nil)`,
		`d := make(chan []int); for i := 0; i < 4; i++ { go func(x int) { d <- []int{x, x * x} }(i) }; for i := 0; i < 4; i++ { a := <-d; print(a[0], a[1], " ") }`,
		`d := make(chan string); for i := 0; i < 3; i++ { go func(x string) { defer say(); d <- x; print("no") }("v" + "w") }; settle(); close(d); settle(); <-make(chan int)`,
		`d := make(chan string); for i := 0; i < 3; i++ { go func() { print("[", <-d, "]") }() }; settle(); d <- "x" + "y"; close(d); settle(); print("m")`,
		`a := make(chan string); d := make(chan *T); go func() { select { case x := <-a: print("a", x); case p := <-d: print("d", p.n) }; print("g") }(); settle(); d <- &T{n: 3}; select { case a <- "no": print("no"); default: print("left") }; settle()`,
		`a := make(chan string); d := make(chan *T); go func() { select { case a <- "x" + "y": print("sent"); case d <- &T{n: 4}: print("d") }; print("g") }(); settle(); print((<-d).n); select { case x := <-a: print("no", x); default: print("left") }; settle()`,
		`a := make(chan int, 1); d := make(chan int, 1); a <- 1; d <- 2; for i := 0; i < 4; i++ { select { case x := <-a: print("a", x); case x := <-d: print("d", x); case a <- 5: print("A"); default: print("-") } }`,
		`d := make(chan int); close(d); print(<-d); close(d)`, `d := make(chan string, 1); close(d); print(<-d == ""); d <- "x"`, `close(gc)`, `gc <- "x"`, `print(<-gc)`, `select { }`, `select { case gc <- "a" + "b": case <-gc: }`, `d := make(chan int); d <- 1`, `d := make(chan int); <-d`,
		`d := make(chan int); e := d; print(d == e, d == make(chan int), d != nil, gc == nil, len(gc), cap(gc), len(d), cap(make(chan int, 9)))`, `for i := 0; i < 70; i++ { go func() { <-make(chan string) }(); settle() }`,
		`go func() { panic("in" + "side") }(); settle(); settle(); print("no")`, `gc = make(chan string, 3); for i := 0; i < 20; i++ { gc <- "x" + "yz"; gc <- gs; print(<-gc, len(gc)); gs = <-gc + "."; if len(gs) > 9 { gs = "" } }; print(gs)`,
		`d := make(chan int); x := 0; for i := 0; i < 5; i++ { go func(k int) { y := x; for z := 0; z < 2; z++ { }; x = y + k; d <- x }(i) }; for i := 0; i < 5; i++ { print(<-d, " ") }; print(x)`,
		`d := make(chan *R, 1); go func() { r := &R{}; for i := 0; i < 9; i++ { r = &R{s: r.s + "a", r: r}; d <- r } }(); for i := 0; i < 9; i++ { r := <-d; k := 0; for q := r; q != nil; q = q.r { k++ }; print(r.s, k, " ") }`,
	}},
}

// everySource goes through the corpus.
func everySource(yield func(src string) bool) {
	for _, g := range corpus {
		for _, main := range g.mains {
			if !yield(source(main, g.file)) {
				return
			}
		}
	}
}
