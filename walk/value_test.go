package walk_test

import (
	"strings"
	"testing"
)

// edges has the least and the greatest number, which can't be written.
const edges = `
func least() int { x := 1; for i := 0; i < 63; i++ { x *= 2 }; return x }
func most() int { return least() - 1 }
`

func TestNumbers(t *testing.T) {
	runAll(t, edges, []row{
		{main: `print(least(), " ", most())`, output: "-9223372036854775808 9223372036854775807"},
		{main: `print(most() + 1 == least(), least() - 1 == most(), -least() == least(), -most() == least() + 1)`, output: "truetruetruetrue"},
		{main: `print(most() * 2, " ", most() * most(), " ", least() * 2, " ", least() * (-1) == least(), " "); print(least() * least())`, output: "-2 1 0 true 0"},
		{main: `print(most() + most(), " ", least() + least(), " ", 0 - least() == least(), " ", most() - (-1) == least())`, output: "-2 0 true true"},
		{main: `x := most(); x++; print(x == least()); x--; print(x == most()); x += 2; print(x == least() + 1); x -= 3; print(x); x *= x; print(" ", x)`, output: "truetruetrue9223372036854775806 4"},
		{main: `print(least() / (-1) == least(), " ", least() % (-1), " ", least() / 1 == least(), " ", least() % 1)`, output: "true 0 true 0"},
		{main: `print(least() / most(), " ", least() % most(), " ", most() / least(), " ", most() % least() == most(), " "); print(least() / least(), " ", least() % least())`, output: "-1 -1 0 true 1 0"},
		{main: `print(least() / 10, " ", least() % 10, " ", least() / (-10), " ", least() % (-10))`, output: "-922337203685477580 -8 922337203685477580 -8"},
		{main: `print(7 / 2, " ", -7 / 2, " ", 7 / (-2), " ", -7 / (-2), " "); print(0 / (-5))`, output: "3 -3 -3 3 0"},
		{main: `print(7 % 2, " ", -7 % 2, " ", 7 % (-2), " ", -7 % (-2), " "); print(0 % (-5), " ", -6 % 3)`, output: "1 -1 1 -1 0 0"},
		{main: `print(999999999999999999 * 10, " ", 999999999999999999 * 999999999999999999)`, output: "-8446744073709551626 -7527149226598858751"},
		{main: `print(1 - 2 - 3, " ", 2 + 3 * 4 - 5, " ", 100 / 10 / 5, " ", 100 % 7 * 3, " "); print(- - 3, " ", -(-3) - -3)`, output: "-4 9 2 6 3 6"},
		{main: `print(least() < most(), most() < least(), least() <= least(), least() < least(), most() >= least(), most() > most(), -1 < 0, 0 <= -1)`, output: "truefalsetruefalsetruefalsetruefalse"},
		{main: `print(1 == 1, 1 != 1, least() == most(), least() != most(), 0 == -0)`, output: "truefalsefalsetruetrue"},
		{main: `print(true, false, !true, !false, true == true, true != true, false == true, !!true)`, output: "truefalsefalsetruetruefalsefalsetrue"},
		{main: `print(0, 10, -10, 1000000)`, output: "010-101000000"},
		{main: `print(1 < 2 == true, true == !false, (1 <= 1) != (2 > 1), (1 == 1) == (2 != 1), true == (1 < 2), "a" < "b" == true)`, output: "truetruefalsetruetruetrue"},
		{main: `x := 7; y := -3; a := x + y; b := x - y; c := x * y; d := x / y; e := x % y; f := -x; print(a, b, c, d, e, f, x, y)`, output: "410-21-21-77-3"},
		{main: `x := 7; y := -3; a := x < y; b := x <= y; c := x == y; d := x != y; e := x > y; f := x >= y; print(a, b, c, d, e, f); print(x, y); g := !a; print(g, a)`, output: "falsefalsefalsetruetruetrue7-3truefalse"},
		{main: `print(1); print(1 / 0); print(2)`, output: "1", why: "panic: divide by zero"},
		{main: `x := 0; print(5 % x)`, why: "panic: divide by zero"},
		{main: `x := 0; print(x / x)`, why: "panic: divide by zero"},
		{main: `print(least() / (1 - 1))`, why: "panic: divide by zero"},
		{main: `print(least() % (1 - 1))`, why: "panic: divide by zero"},
	})
}

// long has a text of as many bytes as may be.
const long = `
func long() string { s := "a"; for i := 0; i < 14; i++ { s += s }; return s }
`

func TestStrings(t *testing.T) {
	runAll(t, long, []row{
		{main: `print(len(long()), len(long() + ""), len("" + long()), len(long()[1:] + "b"), len(long()[:8192] + long()[8192:]))`, output: strings.Repeat("16384", 5)},
		{main: `s := long(); s += ""; print(len(s)); s = s[1:]; s += "b"; print(s[16382], s[16383]); s += "c"; print("no")`, output: "163849798", why: "panic: text too long"},
		{main: `s := long() + "b"; print(len(s))`, why: "panic: text too long"},
		{main: `print(len("b" + long()))`, why: "panic: text too long"},
		{main: `print(len(long() + long()))`, why: "panic: text too long"},
		{main: `s := long(); func() { defer func() { print(recover(), ";") }(); s += "b" }(); print(len(s), s[16383])`, output: "text too long;1638497"},
		{main: `s := "abc"; print(s[0], " ", s[2], " ", "\n"[0], " ", "~"[0], " "); print(" "[0])`, output: "97 99 10 126 32"},
		{main: `s := "abc"; print(s[3])`, why: "panic: index out of range"},
		{main: `s := "abc"; print(s[-1])`, why: "panic: index out of range"},
		{main: `s := ""; print(s[0])`, why: "panic: index out of range"},
		{main: `s := "abc"; print(s[1:2], s[:1], s[2:], s[:], s[0:3], s[3:] == "", s[:0] == "", s[2:2] == "")`, output: "bacabcabctruetruetrue"},
		{main: `s := "abcdef"; t := s[1:5]; u := t[1:3]; s = "x"; print(t, u, u[0], len(u))`, output: "bcdecd992"},
		{main: `s := "abc"; print(s[2:1])`, why: "panic: slice bounds out of range"},
		{main: `s := "abc"; print(s[:4])`, why: "panic: slice bounds out of range"},
		{main: `s := "abc"; print(s[4:])`, why: "panic: slice bounds out of range"},
		{main: `s := "abc"; print(s[-1:])`, why: "panic: slice bounds out of range"},
		{main: `s := "abc"; print(s[:-1])`, why: "panic: slice bounds out of range"},
		{main: `s := "abc"[:2]; print(s[:3])`, why: "panic: slice bounds out of range"},
		{main: `print("a" < "b", "b" < "a", "a" < "a", "a" <= "a", "a" < "ab", "ab" < "a", "" < "a", "" < ""); print("" <= "", "Z" < "a", "~" > "a", "b" > "ab", "a\n" < "a ")`, output: "truefalsefalsetruetruefalsetruefalsetruetruetruetruetrue"},
		{main: `print("ab" == "a" + "b", "ab" != "a" + "b", "a" == "b", "a" == "ab", "" == "a"[1:], "a" >= "b", "b" >= "a", "a" >= "a"); print("a" > "")`, output: "truefalsefalsefalsetruefalsetruetruetrue"},
		{main: `print(long()[1:] < long(), long() < long()[1:], long()[1:] + "b" > long(), long() == long())`, output: "truefalsetruetrue"},
		{main: `x := "a"; y := "b"; a := x < y; b := x <= y; c := x == y; d := x != y; e := x + y; f := x[0]; g := y[:0]; print(a, b, c, d, e, f, g, x); print(y)`, output: "truetruefalsetrueab97ab"},
		{main: `var s string; print(s, len(s), s == "", s + "x"); s += "y"; print(s)`, output: "0truexy"},
		{main: `s := "a"; t := s; s += "b"; print(s, t)`, output: "aba"},
		{main: `print("", "a\n\"\\b", "")`, output: "a\n\"\\b"},
	})
}

func TestSlices(t *testing.T) {
	runAll(t, "type T struct { n int; }\n", []row{
		{main: `a := make([]int, 3); print(a[0], a[1], a[2], len(a), cap(a)); b := make([]string, 1); print(b[0] == ""); c := make([]*T, 1); print(c[0] == nil); d := make([]bool, 1); print(d[0]); e := make([][]int, 1); print(e[0] == nil, len(e[0]))`, output: "00033truetruefalsetrue0"},
		{main: `a := []int{1, 2, 3, 4, 5}; b := a[1:3]; b[0] = 9; a[2] = 8; print(a[1], b[1], len(b), cap(b)); c := b[1:4]; c[2] = 7; print(a[4], len(c), cap(c))`, output: "9824733"},
		{main: `a := []int{1, 2, 3}; b := a; b[0] = 9; print(a[0]); a = nil; print(len(a), b[0])`, output: "909"},
		{main: `a := []int{1, 2, 3, 4}; b := append(a[:1], 7); print(a[1], len(b), cap(b)); c := append(a[:2], 8, 9); print(a[2], a[3], len(c)); d := append(a[:3], 5, 6); d[0] = 0; print(a[0], a[3], len(d), cap(d))`, output: "7248941958"},
		{main: `a := []int{1}; a = append(a, 2); print(cap(a)); a = append(a, 3); print(cap(a)); a = append(a, 4, 5); print(cap(a)); a = append(a, 6, 7, 8, 9); print(cap(a), len(a)); for i := 0; i < 9; i++ { print(a[i]) }`, output: "248169123456789"},
		{main: `a := []int{1}; a = append(a, 2, 3, 4, 5); print(len(a), cap(a)); b := append(a, 6); c := append(b, 7); d := append(b, 8); print(cap(b), c[6], d[6])`, output: "551088"},
		{main: `a := []int{1, 2, 3}[1:]; print(cap(a)); a = append(a, 4); print(len(a), cap(a), a[0], a[2])`, output: "23424"},
		{main: `a := make([]int, 4); b := a[1:2]; b = append(b, 5); print(a[2], cap(b)); b = append(b, 6, 7); print(a[3], len(b), cap(b), b[1], b[3])`, output: "5304657"},
		{main: `a := []int{}; print(a == nil, len(a), cap(a)); b := make([]int, 0); print(b == nil); var c []int; print(c == nil, len(c), cap(c)); print(append(c) == nil, append(a) == nil, c[:] == nil, c[0:0] == nil, a[:] == nil)`, output: "false00falsetrue00truefalsetruetruefalse"},
		{main: `var c []int; c = append(c, 1); print(len(c), cap(c), c[0], c != nil); var d []int; d = append(d, 1, 2, 3); print(len(d), cap(d))`, output: "111true33"},
		{main: `a := []int{1, 2}; b := append(a); b[0] = 5; print(a[0]); b = a[:0]; print(len(b), cap(b), b == nil); b = b[:2]; print(b[0], b[1]); b = b[2:]; print(len(b), cap(b)); b = append(b, 3); print(cap(b))`, output: "502false52001"},
		{main: `a := []int{1, 2, 3}; print(a[3])`, why: "panic: index out of range"},
		{main: `a := []int{1, 2, 3}; print(a[-1])`, why: "panic: index out of range"},
		{main: `a := []int{1, 2, 3}[:2]; print(a[2])`, why: "panic: index out of range"},
		{main: `a := []int{1, 2, 3}[:2]; a[2] = 1`, why: "panic: index out of range"},
		{main: `a := []int{1, 2, 3}; a[-1]++`, why: "panic: index out of range"},
		{main: `var a []int; a[0] = 1`, why: "panic: index out of range"},
		{main: `a := []int{}; print(a[0])`, why: "panic: index out of range"},
		{main: `a := []int{1, 2, 3}; b := a[1:2]; print(len(b[:2]), len(b[0:0]), len(b[2:2])); b = b[:3]`, output: "200", why: "panic: slice bounds out of range"},
		{main: `a := []int{1, 2, 3}[:1]; a = a[2:]`, why: "panic: slice bounds out of range"},
		{main: `a := []int{1, 2, 3}; a = a[2:1]`, why: "panic: slice bounds out of range"},
		{main: `a := []int{1, 2, 3}; a = a[-1:]`, why: "panic: slice bounds out of range"},
		{main: `a := []int{1, 2, 3}; a = a[:-1]`, why: "panic: slice bounds out of range"},
		{main: `a := []int{1, 2, 3}; a = a[4:4]`, why: "panic: slice bounds out of range"},
		{main: `var a []int; a = a[0:1]`, why: "panic: slice bounds out of range"},
		{main: `a := make([]int, 1024); print(len(a), a[1023]); b := make([]int, 0); print(len(b)); c := make([]int, 1025)`, output: "102400", why: "panic: bad length"},
		{main: `a := make([]int, -1)`, why: "panic: bad length"},
		{main: `c := make(chan int, 1024); print(cap(c)); c = make(chan int, 1025)`, output: "1024", why: "panic: bad length"},
		{main: `c := make(chan int, -1)`, why: "panic: bad length"},
		{main: `a := []*T{new(T), nil}; b := append(a, &T{n: 4}); a[0].n = 3; print(b[0].n, b[2].n, b[1] == nil, cap(b), b[:4][3] == nil)`, output: "34true4true"},
		{main: `a := [][]int{[]int{1}, nil}; a[0][0]++; a[1] = append(a[1], 5); b := a[0]; b[0]++; print(a[0][0], a[1][0], len(a))`, output: "352"},
		{main: `a := []string{"x", "y"}; a[0] += a[1]; b := append(a, a[0] + "z"); print(b[0], b[2], b[:4][3] == "")`, output: "xyxyztrue"},
		{main: `a := []bool{true, false}; a[1] = !a[1]; a = append(a, false); print(a[0], a[1], a[2], a[:4][3])`, output: "truetruefalsefalse"},
		{main: `a := []func() int{func() int { return 4 }, nil}; print(a[0](), a[1] == nil)`, output: "4true"},
		{main: `a := []int{1, 2, 3}; i := 0; a[i] = a[i+1] + a[i+2]; i++; a[i] *= a[0]; a[2] -= a[1]; print(a[0], a[1], a[2])`, output: "510-7"},
	})
}

// full has a slice of as many items as may be, and one of half as many, without room.
const full = `
func full(n int) []int { a := make([]int, 1024); for len(a) < n { a = append(a, 7) }; return a }
`

func TestSlicesAtTheLimit(t *testing.T) {
	runAll(t, full, []row{
		{main: `a := full(16384); print(len(a), " ", cap(a)); a[16383] = 1; b := append(a); print(len(b)); a = append(a, 1); print("no")`, output: "16384 1638416384", why: "panic: slice too long"},
		{main: `a := full(16383); print(len(a), " ", cap(a)); a = append(a, 5); print(" ", len(a), a[16383]); a = append(a, 1)`, output: "16383 16384 163845", why: "panic: slice too long"},
		{main: `a := full(16383); a = append(a, 5, 6)`, why: "panic: slice too long"},
		{main: `a := full(8192); print(cap(a)); b := append(a, 1); print(" ", len(b), " ", cap(b)); c := append(b[1:], 2); print(" ", len(c), " ", cap(c), b[:8194][8193])`, output: "8192 8193 16384 8193 163832"},
		{main: `a := full(9000)[1:]; print(cap(a)); a = a[:16383]; a = append(a, 3); print(" ", len(a), " ", cap(a), a[16383])`, output: "16383 16384 163843"},
		{main: `a := full(9000)[16000:]`, why: "panic: slice bounds out of range"},
		{main: `a := full(9000)[16000-8000:]; a = a[:8384]; print(cap(a)); a = append(a, 3); print(" ", len(a), " ", cap(a))`, output: "8384 8385 16384"},
	})
}

func TestObjects(t *testing.T) {
	runAll(t, `
type E struct {
}
type T struct {
	n int
	b bool
	s string
	p *T
	l []int
	c chan int
	f func() int
}
type F struct {
	a int
	b int
}
var g *T
`, []row{
		{main: `p := new(T); print(p.n, p.b, p.s == "", p.p == nil, p.l == nil, p.c == nil, p.f == nil)`, output: "0falsetruetruetruetruetrue"},
		{main: `p := &T{}; print(p.n, p.b, p.s == "", p.p == nil)`, output: "0falsetruetrue"},
		{main: `p := &T{s: "a", n: 4, l: []int{6}, f: func() int { return 7 }, c: make(chan int, 8), b: true}; print(p.n, p.s, p.l[0], p.f(), cap(p.c), p.b, p.p == nil)`, output: "4a678truetrue"},
		{main: `p := &T{n: 1}; q := p; q.n++; p.n *= 5; p.s += "x"; q.s += "y"; print(p.n, q.n, p.s, p == q, p != q, &T{n: 1} == &T{n: 1})`, output: "1010xytruefalsefalse"},
		{main: `p := new(E); q := new(E); print(p == q, p == p, p != nil, nil == p, &E{} == &E{})`, output: "falsetruetruefalsefalse"},
		{main: `p := &F{b: 2, a: 1}; q := new(F); q.b = p.a; p.a = p.b; print(p.a, p.b, q.a, q.b)`, output: "2201"},
		{main: `p := &T{n: 1}; p.p = p; p.p.p.p.n = 8; print(p.n, p.p == p)`, output: "8true"},
		{main: `p := &T{n: 1}; p = &T{n: 2, p: p}; p = &T{n: 3, p: p}; print(p.n, p.p.n, p.p.p.n, p.p.p.p == nil); p.p.p.p = &T{n: 4}; p = p.p; print(p.p.p.n)`, output: "321true4"},
		{main: `f := func(p *T) { p.n = 5; p = nil }; p := new(T); f(p); print(p.n)`, output: "5"},
		{main: `g = &T{l: []int{1, 2}}; g.l[1]++; a := g.l; g.l = append(g.l, 5); a[0] = 9; print(g.l[0], g.l[1], g.l[2], len(a))`, output: "1352"},
		{main: `print(g == nil); print(g.n)`, output: "true", why: "panic: nil dereference"},
		{main: `g.n = 1`, why: "panic: nil dereference"},
		{main: `g.n++`, why: "panic: nil dereference"},
		{main: `g.s += "a"`, why: "panic: nil dereference"},
		{main: `p := &T{}; print(p.p.n)`, why: "panic: nil dereference"},
		{main: `p := &T{}; p.p.p = p`, why: "panic: nil dereference"},
		{main: `p := &T{}; p.f()`, why: "panic: call of nil function"},
		{main: `p := &T{}; p.l[0] = 1`, why: "panic: index out of range"},
		{main: `p := &T{}; close(p.c)`, why: "panic: close of nil channel"},
		{main: `c := make(chan int); d := make(chan int); e := c; print(c == d, c == e, c != d, c == nil, nil != c)`, output: "falsetruetruefalsetrue"},
		{main: `var c chan int; var d chan int; var p *T; print(c == d, c == nil, len(c), cap(c), p == g)`, output: "truetrue00true"},
		{main: `print(nilled() == nil); f := nilled; print(f == nil); var h func() int; print(h == nil)`, file: "func nilled() *T { return nil }", output: "truefalsetrue"},
	})
}
