package drive_test

import (
	"strings"

	"derrick/api"
)

func exited(output string) api.Outcome {
	return api.Outcome{State: api.Exited, Output: output}
}

func fatal(output, why string) api.Outcome {
	return api.Outcome{State: api.Fatal, Code: 2, Output: output, Why: why}
}

// work is a right source, and what comes of it without a schedule.
type work struct {
	src  string
	want api.Outcome
}

// works are sources that do something whole, with all that the language has.
var works = []work{
	{"func main() { }", exited("")},
	{`// Primes, by crossing out.
func main() {
	crossed := make([]bool, 50)
	count := 0
	for i := 2; i < len(crossed); i++ {
		if crossed[i] { continue }
		count++
		print(i, " ")
		for k := i * i; k < len(crossed); k += i { crossed[k] = true }
	}
	print("= ", count)
}
`, exited("2 3 5 7 11 13 17 19 23 29 31 37 41 43 47 = 15")},
	{`type Tree struct { left *Tree; right *Tree; key int; }
func put(t *Tree, key int) *Tree {
	if t == nil { return &Tree{key: key} }
	if key < t.key { t.left = put(t.left, key) } else if key > t.key { t.right = put(t.right, key) }
	return t
}
func each(t *Tree, do func(int)) {
	if t != nil {
		each(t.left, do)
		do(t.key)
		each(t.right, do)
	}
}
func main() {
	var root *Tree
	n := 7
	for i := 0; i < 12; i++ {
		root = put(root, n)
		n = (n*5 + 3) % 32
	}
	sum := 0
	sep := ""
	each(root, func(k int) { print(sep, k); sep = ","; sum += k })
	print(" ", sum)
}
`, exited("1,5,6,7,8,9,11,14,15,16,26,28 146")},
	{`func sort(a []int, less func(int, int) bool) {
	if len(a) < 2 { return }
	last := 0
	for i := 1; i < len(a); i++ {
		if less(a[i], a[0]) {
			last++
			x := a[i]
			a[i] = a[last]
			a[last] = x
		}
	}
	x := a[0]
	a[0] = a[last]
	a[last] = x
	sort(a[:last], less)
	sort(a[last+1:], less)
}
func main() {
	var a []int
	for i := 0; i < 11; i++ { a = append(a, i*7%11) }
	sort(a[1:], func(x int, y int) bool { return x > y })
	for i := 0; i < len(a); i++ { print(a[i], ".") }
	sort(a, func(x int, y int) bool { return x < y })
	for i := 0; i < len(a); i++ { print(a[i]) }
}
`, exited("0.10.9.8.7.6.5.4.3.2.1.012345678910")},
	{`// Each prime takes its multiples out of what comes through a channel.
func numbers(to chan int) {
	for i := 2; ; i++ { to <- i }
}
func without(p int, from chan int, to chan int) {
	for {
		i := <-from
		if i%p != 0 { to <- i }
	}
}
func main() {
	c := make(chan int)
	go numbers(c)
	for i := 0; i < 8; i++ {
		p := <-c
		print(p, " ")
		next := make(chan int)
		go without(p, c, next)
		c = next
	}
}
`, exited("2 3 5 7 11 13 17 19 ")},
	{`type Job struct { id int; answer chan string; }
func worker(jobs chan *Job, done chan bool) {
	for {
		j := <-jobs
		if j == nil { break }
		s := ""
		for i := 0; i <= j.id; i++ { s += "x" }
		j.answer <- s
	}
	done <- true
}
func main() {
	jobs := make(chan *Job, 2)
	done := make(chan bool)
	for i := 0; i < 3; i++ { go worker(jobs, done) }
	var all []*Job
	for i := 0; i < 7; i++ {
		j := &Job{id: i, answer: make(chan string, 1)}
		all = append(all, j)
		jobs <- j
	}
	close(jobs)
	for i := 0; i < 3; i++ { <-done }
	for i := len(all) - 1; i >= 0; i-- { print(len(<-all[i].answer)) }
}
`, exited("7654321")},
	{`func main() {
	a := make(chan int, 3)
	b := make(chan string)
	quit := make(chan bool)
	go func() {
		for i := 0; i < 3; i++ { a <- i*i }
		for i := 0; i < 2; i++ { b <- "bc"[i:] }
		close(quit)
	}()
	rounds := 0
L:
	for {
		rounds++
		select {
		case x := <-a:
			print("a", x, " ")
		case s := <-b:
			print("b", s, " ")
		case <-quit:
			break L
		}
	}
	select { case a <- 7: print("sent ", len(a), cap(a)); default: print("full") }
	print(rounds)
}
`, exited("a0 a1 a4 bbc bc sent 136")},
	{`func safely(what string, do func()) {
	defer func() { print(what, ": ", recover(), "; ") }()
	do()
	print("fine, ")
}
func main() {
	zero := 0
	var none []int
	var no *T
	var f func()
	var c chan int
	one := []int{1}
	safely("div", func() { print(1 / zero) })
	safely("mod", func() { print(1 % zero) })
	safely("index", func() { one[len(one)]++ })
	safely("none", func() { print(none[0]) })
	safely("slice", func() { print(len(one[2:])) })
	safely("nil", func() { no.n = 1 })
	safely("call", func() { f() })
	safely("go", func() { go f() })
	safely("make", func() { one = make([]int, -1) })
	safely("close", func() { close(c) })
	c = make(chan int, 1025 - 1)
	close(c)
	safely("again", func() { close(c) })
	safely("send", func() { c <- 1 })
	safely("own", func() { panic("own" + "ed") })
	safely("ok", func() { print(<-c, " ") })
	no.n++
}
type T struct { n int; }
`, fatal("div: divide by zero; mod: divide by zero; index: index out of range; none: index out of range; slice: slice bounds out of range; nil: nil dereference; call: call of nil function; go: call of nil function; make: bad length; close: close of nil channel; again: close of closed channel; send: send on closed channel; own: owned; 0 fine, ok: ; ", "panic: nil dereference")},
	{`var depth int
func down(n int) int {
	defer func() { depth-- }()
	depth++
	if depth > 5 { panic("too far") }
	return down(n+1) + 1
}
func try() string {
	defer func() { print("(", depth, recover(), depth, ")") }()
	down(0)
	return "never"
}
func main() {
	for i := 0; i < 3; i++ { defer print2(i) }
	print(try() == "")
	func() {
		defer func() { print("[", recover(), "]") }()
		defer func() { panic("second") }()
		panic("first")
	}()
	defer func() { panic("last") }()
	panic("lost")
}
func print2(i int) { print("<", i, ">") }
`, fatal("(0too far0)true[second]<2><1><0>", "panic: last")},
	{`func main() {
	var makers []func() int
	for i := 0; i < 3; i++ {
		k := i * 10
		makers = append(makers, func() int { k++; return k + i })
	}
	for i := 0; i < 3; i++ { print(makers[i](), makers[i](), " ") }
	compose := func(f func(int) int, g func(int) int) func(int) int { return func(x int) int { return g(f(x)) } }
	double := func(x int) int { return 2*x }
	print(compose(compose(double, double), func(x int) int { return x - 1 })(5))
}
`, exited("45 1415 2425 19")},
	{`func main() {
	for i := 0; i < 16; i++ {
		switch {
		case i%15 == 0: print("FizzBuzz")
		case i%5 == 0: print("Buzz")
		case i%3 == 0: print("Fizz")
		default: print(i)
		}
		switch i { case 1, 2: print("!"); fallthrough; case 7: print("?"); case 8: if i == 8 { break }; print("never"); }
	}
}
`, exited("FizzBuzz1!?2!?Fizz4BuzzFizz7?8FizzBuzz11Fizz1314FizzBuzz")},
	{`func reversed(s string) string {
	out := ""
	for i := len(s) - 1; i >= 0; i-- { out += s[i:i+1] }
	return out
}
func words(s string) []string {
	var all []string
	begin := 0
	for i := 0; i <= len(s); i++ {
		if i == len(s) || s[i] == 32 {
			if i > begin { all = append(all, s[begin:i]) }
			begin = i + 1
		}
	}
	return all
}
func main() {
	w := words("  the quick \"brown\" fox\\ ")
	for i := 0; i < len(w); i++ { print(reversed(w[i]), "|") }
	print(w[0] < w[1], w[2] > "z", reversed("abcba") == "abcba", "\n")
}
`, exited("eht|kciuq|\"nworb\"|\\xof|falsefalsetrue\n")},
	{`func main() {
	x := 999999999999999999
	for i := 0; i < 4; i++ { x *= 10; print(x, " ") }
	y := 1
	for i := 0; i < 63; i++ { y += y }
	print(y, " ", y-1, " ", -y == y, y/(-1) == y, y%(-1), " ")
	print(-7/2, -7%2, 7/(-2), 7%(-2), -7/(-2), -7%(-2))
}
`, exited("-8446744073709551626 7766279631452241820 3875820019684211736 1864712049423014128 -9223372036854775808 9223372036854775807 truetrue0 -3-1-313-1")},
	{`var said string
func say(s string, b bool) bool { said += s; return b }
func at(i int) int { print(i); return i }
func main() {
	a := []int{5, 6, 7}
	a[at(0)] += at(1) * at(2)
	a[at(2)]--
	b := append(a[:1], at(3))
	print(":", a[0], a[1], a[2], len(b), cap(b))
	if say("a", true) || say("b", true) { print(said) }
	if say("c", false) && say("d", true) || say("e", true) { print(said) }
	f := func() []int { a = nil; return b }
	a = f()
	a[0] = func() int { a = []int{9, 9}; return 1 }()
	print(a[0], b[0])
}
`, exited("01223:73623aace91")},
	{`type Cell struct { item string; next *Cell; }
type Stack struct { top *Cell; size int; }
func push(s *Stack, item string) { s.top = &Cell{item: item, next: s.top}; s.size++ }
func pop(s *Stack) string {
	item := s.top.item
	s.top = s.top.next
	s.size--
	return item
}
func main() {
	s := new(Stack)
	for i := 0; i < 300; i++ {
		push(s, "item" + "abcdefghij"[i%10:])
		if i%3 == 2 { pop(s); pop(s) }
	}
	print(s.size, pop(s), pop(s), s.size, s.top == nil)
	for s.top != nil { pop(s) }
	pop(s)
}
`, fatal("100itemhijitemefghij98false", "panic: nil dereference")},
	{`type Mutex struct { c chan bool; }
func lock(m *Mutex) { m.c <- true }
func unlock(m *Mutex) { <-m.c }
var total int
func main() {
	m := &Mutex{c: make(chan bool, 1)}
	left := make(chan int)
	for i := 1; i <= 10; i++ {
		go func(n int) {
			defer func() { left <- n }()
			lock(m)
			defer unlock(m)
			t := total
			for k := 0; k < 3; k++ { }
			total = t + n
		}(i)
	}
	sum := 0
	for i := 0; i < 10; i++ { sum += <-left }
	print(sum, " ", total)
}
`, exited("55 55")},
	{`func f(n int) int { if n == 0 { return 0 }; return 1 + f(n-1) }
func main() { print(f(58), " "); print(f(59)) }
`, fatal("58 ", "fatal: stack overflow")},
	{`func main() {
	c := make(chan int)
	for i := 1; ; i++ { print(i, ","); go func() { c <- i }() }
}
`, fatal("1,2,3,4,5,6,7,8,9,10,11,12,13,14,15,16,17,18,19,20,21,22,23,24,25,26,27,28,29,30,31,32,33,34,35,36,37,38,39,40,41,42,43,44,45,46,47,48,49,50,51,52,53,54,55,56,57,58,59,60,61,62,63,64,", "fatal: too many goroutines")},
	{`func main() {
	s := "ab"
	defer func() { print(len(s), recover(), len(s)) }()
	for { s += s }
}
`, exited("16384text too long16384")},
	{`func main() {
	a := []bool{true}
	defer func() { print(len(a), recover(), cap(a)) }()
	for { a = append(a, a[len(a)-1], false) }
}
`, exited("16383slice too long16384")},
	{`func main() {
	c := make(chan chan int)
	var d chan int
	go func() { select { case x := <-c: print("got "); x <- 5; case <-d: print("never"); } }()
	r := make(chan int)
	c <- r
	print(<-r)
	select { }
}
`, fatal("got 5", "fatal: all goroutines are asleep")},
	{`// What is evaluated when.
var g int
func up() int { g++; return g }
func main() {
	x := g
	l := []int{g, up(), g, x}
	print(l[0], l[1], l[2], l[3], " ")
	y := 1
	h := func() int { y = 10; return 1 }
	print(y+h()+y, " ")
	p := &T{n: 1}
	q := p
	p.n += func() int { p = &T{n: 7}; q.n = 50; return 3 }()
	print(p.n, q.n, " ")
	for i := 0; i < 3; i++ { defer func(k int) { print(k, i) }(i) }
	for s := "a"; len(s) < 4; s += "b" { if len(s) == 2 { continue }; print(s) }
}
type T struct { n int; }
`, exited("0110 12 74 aabb231303")},
}

// refused is a source with a fault.
type refused struct {
	src   string
	fault api.Fault
}

// nested is something between so many brackets, or after so many of them that nothing closes.
func nested(open, within, end string, depth int) string {
	return strings.Repeat(open, depth) + within + strings.Repeat(end, depth)
}

// padded is a source with a comment behind it, so that it has so many bytes.
func padded(src string, size int) string {
	return src + "//" + strings.Repeat("x", size-len(src)-len("//"))
}

// faults are sources of which each has a fault of one stage, and, but where the first of them is to be told, no other one.
var faults = []refused{
	{padded("func main() { }", api.MaxSource+1), api.Fault{Stage: api.TooBig, At: api.MaxSource}},
	{padded("#", 3*api.MaxSource), api.Fault{Stage: api.TooBig, At: api.MaxSource}},
	{strings.Repeat("\x00", api.MaxSource+1), api.Fault{Stage: api.TooBig, At: api.MaxSource}},
	{"#", api.Fault{Stage: api.Lexical, At: 0}},
	{"func main() { x := 007 }", api.Fault{Stage: api.Lexical, At: 19}},
	{"func main() {\n\tprint(12a)\n}\n", api.Fault{Stage: api.Lexical, At: 23}},
	{"func main() { print(\"ab) }", api.Fault{Stage: api.Lexical, At: 26}},
	{"func main() { print(\"\\t\") }", api.Fault{Stage: api.Lexical, At: 21}},
	{"func main() { print(1 | 2) }", api.Fault{Stage: api.Lexical, At: 22}},
	{"x y z\n\xff", api.Fault{Stage: api.Lexical, At: 6}},
	{"func main() { } " + strings.Repeat("n", api.MaxName+1), api.Fault{Stage: api.Lexical, At: 16}},
	{"func main() { print(1234567890123456789) }", api.Fault{Stage: api.Lexical, At: 20}},
	{"func main() { print(\"" + strings.Repeat("t", api.MaxText+1) + "\") }", api.Fault{Stage: api.Lexical, At: 20}},
	{nested("(", "#", "", api.MaxNest+9), api.Fault{Stage: api.Lexical, At: api.MaxNest + 9}},
	{nested("(", "", "", api.MaxNest+1), api.Fault{Stage: api.TooDeep, At: api.MaxNest}},
	{"func main() { print(" + nested("(", "1", ")", api.MaxNest-1) + ") }", api.Fault{Stage: api.TooDeep, At: 20 + api.MaxNest - 2}},
	{"func main() " + nested("{", " ", "}", api.MaxNest+1), api.Fault{Stage: api.TooDeep, At: 12 + api.MaxNest}},
	{"} nothing " + nested("[", "", "", api.MaxNest+1), api.Fault{Stage: api.TooDeep, At: 10 + api.MaxNest}},
	{"func", api.Fault{Stage: api.Syntax, At: 4}},
	{"x := 1", api.Fault{Stage: api.Syntax, At: 0}},
	{"func f() { a + b }", api.Fault{Stage: api.Syntax, At: 13}},
	{"func f() { go f }", api.Fault{Stage: api.Syntax, At: 16}},
	{"func f() { if x == &T{} { } }", api.Fault{Stage: api.Syntax, At: 19}},
	{"func main() { print(1) print(2) }", api.Fault{Stage: api.Syntax, At: 23}},
	{"func main() { for i := 0; i < 3; i++ { } print(\"ok\") }", api.Fault{Stage: api.Syntax, At: 41}},
	{"func main()\n{ }", api.Fault{Stage: api.Syntax, At: 11}},
	{"func (t *T) f() { }", api.Fault{Stage: api.Syntax, At: 5}},
	{"package main\nfunc main() { }", api.Fault{Stage: api.Syntax, At: 0}},
	{"func main() { a, b := 1, 2 }", api.Fault{Stage: api.Syntax, At: 15}},
	{"func main() { }\nvar x = 1\n", api.Fault{Stage: api.Syntax, At: 22}},
	{"func main() { x := }\n", api.Fault{Stage: api.Syntax, At: 19}},
	{"func main() { ", api.Fault{Stage: api.Syntax, At: 14}},
	{"", api.Fault{Stage: api.Types}},
	{"func f() { }", api.Fault{Stage: api.Types}},
	{"func main() int { return 1 }", api.Fault{Stage: api.Types}},
	{"func main() { x := nil }", api.Fault{Stage: api.Types}},
	{"func main() { return 1 }", api.Fault{Stage: api.Types}},
	{"func main() { print(1 + true) }", api.Fault{Stage: api.Types}},
	{"func main() { print(x) }", api.Fault{Stage: api.Types}},
	{"func main() { x := 1; x := 2 }", api.Fault{Stage: api.Types}},
	{"func main() { break }", api.Fault{Stage: api.Types}},
	{"func main() { L: for { func() { continue L }() } }", api.Fault{Stage: api.Types}},
	{"func f() int { for { break } }\nfunc main() { }", api.Fault{Stage: api.Types}},
	{"type T struct { n int; n bool; }\nfunc main() { }", api.Fault{Stage: api.Types}},
	{"func main() { var p *T }", api.Fault{Stage: api.Types}},
	{"func main() { } func main() { }", api.Fault{Stage: api.Syntax, At: 16}},
	{"func main() { }\nfunc main() { }", api.Fault{Stage: api.Types}},
	{"var main int", api.Fault{Stage: api.Types}},
	{"func main() { print(1, 2, 3, 4, 5, 6, 7, 8, 9) }", api.Fault{Stage: api.Types}},
	{"func main() {\n" + strings.Repeat("func() { }()\n", api.MaxFuncs) + "}", api.Fault{Stage: api.Types}},
	{"func main() {\n" + strings.Repeat("if true { var x int }\n", api.MaxVars+1) + "}", api.Fault{Stage: api.Types}},
}
