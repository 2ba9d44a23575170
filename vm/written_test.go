package vm_test

import (
	"math/rand"
	"strconv"
	"strings"

	"derrick/api"
	"derrick/check"
)

// author writes right sources by chance, most of which come to an end. What it writes goes by letters: i an int, b a
// bool, s a string, p a *T, l a []int, q a []*T, r a []string, c a chan int, d a chan *T, e a chan string, f a func(int) int,
// h a func(*T) *T, g a func(); S a statement, and so on (see fill).
type author struct {
	*rand.Rand
	scopes []map[string][]string // the variables of each scope, by their letters
	names  int
	left   int      // how many parts may still be written
	around []string // the statements that a break may be meant for: a label, ahead of it + if it is a for
	result string   // the letter of what the function that is written answers
}

// prelude stands ahead of each file.
const prelude = `type T struct {
	n int
	s string
	p *T
	l []int
	q []*T
	f func(int) int
	d chan *T
}
var i0 int
var s0 string
var p0 *T
var l0 []int
var q0 []*T
var c0 chan int
var d0 chan *T
func tell(i int) int { print("<", i, ">"); return i }
func say(s string) string { s0 += s; if len(s0) > 40 { s0 = "" }; print("<", s, ">"); return s }
func that(b bool) bool { print("<", b, ">"); return b }
func some(p *T) *T { if p == nil { return &T{n: i0, s: "xy" + "z", f: tell, p: p0} }; p0 = p; return p }
func item(l []int, i int) int { if i < 0 || i >= len(l) { return i }; return l[i] }
func part(q []*T, i int) *T { if i < 0 || i >= len(q) { return nil }; return q[i] }
func word(r []string, i int) string { if i < 0 || i >= len(r) { return "-" }; return r[i] }
func depth(p *T) int { k := 0; for ; p != nil && k < 9; p = p.p { k++ }; return k }
func call(f func(int) int, i int) int { if f == nil { return i }; return f(i) }
func same(h func(*T) *T, p *T) *T { if h == nil { return p }; return h(p) }
func up() int { i0++; return i0 }
func get(c chan int) int { select { case i := <-c: print("-", i); return i; default: return 0 } }
func set(c chan int, i int) { defer func() { recover() }(); select { case c <- i: print("+", i); default: } }
func take(d chan *T) *T { select { case p := <-d: return p; default: return nil } }
func give(d chan *T, p *T) { defer func() { recover() }(); select { case d <- p: default: } }
`

// forms are ways to write each letter; the first is the plainest. A $ stands ahead of a letter.
func forms(letter byte) []string {
	switch letter {
	case 'i':
		return []string{"1", "0", "2", "3", "64", "($i + $i)", "($i - $i)", "($i * $i)", "($i / 3)", "($i % 4)", "(-$i)", "len($s)", "len($l)", "cap($l)", "len($q)", "len($r)", "len($c)", "cap($d)", "depth($p)",
			"item($l, $i)", "item($l, $i)", "some($p).n", "tell($i)", "up()", "call($f, $i)", "tell($i)", "get($c)", "$l[$i]", "($s + \"a\")[0]", "$p.n", "$f($i)", "(<-$c)", "($i / $i)"}
	case 'b':
		return []string{"true", "false", "($i < $i)", "($i >= $i)", "($i == $i)", "($s == $s)", "($s != $s)", "($s > $s)", "($s <= $s)", "($p == $p)", "($p != nil)", "($l == nil)", "($q != nil)",
			"($d == $d)", "(nil != $h)", "($b && $b)", "($b || $b)", "(!$b)", "that($b)", "($b == $b)"}
	case 's':
		return []string{`"a"`, `""`, `"bcd"`, "($s + $s)", "($s + \"lmnopqrs\")", "some($p).s", "say($s)", "word($r, $i)", "recover()", "(\"v\" + $s)[1:]", "($s + \"w\")[:1]", "$s[0:]", "$s[:len($s)]", "$s[$i:$i]"}
	case 'p':
		return []string{"new(T)", "some($p)", "(&T{n: $i})", "(&T{s: $s, p: $p, n: $i})", "(&T{l: $l, f: $f})", "(&T{q: $q, d: $d})", "some($p).p", "part($q, $i)", "part(some($p).q, $i)", "same($h, $p)", "take($d)", "take($d)", "$p.p", "(<-$d)"}
	case 'l':
		return []string{"([]int{4, 5})", "([]int{$i, $i, $i})", "append($l, $i)", "append($l, $i, $i)", "append($l)", "$l[:0]", "$l[:]", "append($l, $i)[1:]", "$l[:cap($l)]", "make([]int, 3)", "make([]int, len($l))", "some($p).l", "$l[$i:$i]"}
	case 'q':
		return []string{"([]*T{nil})", "([]*T{$p, $p})", "append($q, $p)", "append($q, $p, $p)", "append($q)", "$q[:0]", "$q[:]", "append($q, $p)[1:]", "$q[:cap($q)]", "make([]*T, 2)", "some($p).q"}
	case 'r':
		return []string{"([]string{\"u\"})", "([]string{$s, $s})", "append($r, $s)", "append($r, $s, $s)", "$r[:0]", "append($r, $s)[1:]", "make([]string, 3)"}
	case 'c':
		return []string{"make(chan int, 1)", "make(chan int)", "c0"}
	case 'd':
		return []string{"make(chan *T, 2)", "make(chan *T)", "d0", "some($p).d"}
	case 'e':
		return []string{"make(chan string, 2)", "make(chan string)"}
	case 'f':
		return []string{"tell", "some($p).f", "$F", "$F"}
	case 'h':
		return []string{"some", "$K", "$K"}
	case 'g':
		return []string{"func() { up() }", "func() $H"}
	}
	return []string{"$D", "$D", "$D", "$D", "$A", "$A", "print($i, $s, $b)", "print($i)", "print(depth($p), len($q), $s)", "if $b $B", "if $b $B else if $b $B else $B", "$L", "$L", "$W", "$E", "$E", "$J",
		"$c <- $i", "set($c, $i)", "give($d, $p)", "give($d, $p)", "print(get($c))", "<-$c", "<-$d", "$d <- $p", "$e <- $s", "print(<-$e)", "close($c)", "close($d)", "for $p != nil && up() < 9 $B", "go $g()", "go func() $G()", "go call($f, $i)", "go same($h, $p)",
		"defer $g()", "defer func() { print(\"!\", recover()) }()", "defer call($f, $i)", "defer same($h, $p)", "defer say($s)", "panic($s)", "func() $G()", "func() $G()", "$g()", "call($f, $i)", "tell($i)", "$B"}
}

// fill writes a form's parts.
func (a *author) fill(form string) string {
	var out strings.Builder
	for k := 0; k < len(form); k++ {
		if form[k] != '$' {
			out.WriteByte(form[k])
			continue
		}
		k++
		out.WriteString(a.part(form[k]))
	}
	return out.String()
}

func (a *author) part(letter byte) string {
	switch letter {
	case 'B':
		return a.block("", nil)
	case 'H':
		return a.function("", nil, "")
	case 'G':
		return a.function("", nil, "defer func() { print(\"?\", recover()) }()\n")
	case 'F':
		name := a.fresh("i")
		return "func(" + name + " int) int " + a.function("i", []string{name}, a.late())
	case 'K':
		name := a.fresh("p")
		return "func(" + name + " *T) *T " + a.function("p", []string{name}, a.late())
	case 'D':
		return a.define()
	case 'A':
		return a.assign()
	case 'L':
		return a.loop()
	case 'W':
		return a.choice()
	case 'E':
		return a.selection()
	case 'J':
		return a.jump()
	}
	return a.one(letter)
}

// late makes a function that has returned panic, at times: so what comes of its value is asked for.
func (a *author) late() string {
	if a.Intn(3) > 0 {
		return ""
	}
	return "defer func() { print(\"?\", recover()) }()\ndefer func() { if up() % 2 == 0 { panic(\"late\") } }()\n"
}

// one is a variable, or a form that fits.
func (a *author) one(letter byte) string {
	a.left--
	if name := a.known(string(letter)); name != "" && (a.left < 0 || a.Intn(2) == 0) {
		return name
	}
	list := forms(letter)
	if a.left < 0 {
		if letter == 'S' {
			return "up()"
		}
		return list[0]
	}
	return a.fill(list[a.Intn(len(list))])
}

func (a *author) fresh(letter string) string {
	a.names++
	return letter + strconv.Itoa(a.names)
}

// known is a variable that is there; empty: there is none.
func (a *author) known(letter string) string {
	var all []string
	for _, s := range a.scopes {
		all = append(all, s[letter]...)
	}
	if len(all) == 0 {
		return ""
	}
	return all[a.Intn(len(all))]
}

// block writes a block whose scope has variables already; first stands ahead of its statements.
func (a *author) block(first string, names []string) string {
	a.scopes = append(a.scopes, map[string][]string{})
	for _, name := range names {
		a.add(name)
	}
	text := "{\n" + first
	for range 1 + a.Intn(4) {
		text += a.one('S') + "\n"
	}
	a.scopes = a.scopes[:len(a.scopes)-1]
	return text + "}"
}

func (a *author) add(name string) {
	last := a.scopes[len(a.scopes)-1]
	last[name[:1]] = append(last[name[:1]], name)
}

// function writes a function's block. Nothing in it leads out of it, but for panics.
func (a *author) function(result string, params []string, first string) string {
	outer, around := a.result, a.around
	a.result, a.around = result, nil
	text := a.block(first, params)
	if result != "" {
		text = strings.TrimSuffix(text, "}") + "return " + a.one(result[0]) + "\n}"
	}
	a.result, a.around = outer, around
	return text
}

func typeOf(letter string) string {
	return map[string]string{"i": "int", "b": "bool", "s": "string", "p": "*T", "l": "[]int", "q": "[]*T", "r": "[]string", "c": "chan int", "d": "chan *T", "e": "chan string", "f": "func(int) int", "h": "func(*T) *T", "g": "func()"}[letter]
}

func (a *author) define() string {
	const letters = "iiibsssppplqqrrcddefhg"
	letter := string(letters[a.Intn(len(letters))])
	name := a.fresh(letter)
	text := name + " := " + a.one(letter[0])
	switch a.Intn(4) {
	case 0:
		if letter != "g" {
			text = "var " + name + " " + typeOf(letter)
		}
	case 1:
		text = "var " + name + " " + typeOf(letter) + " = " + a.one(letter[0])
	}
	a.add(name)
	return text
}

func (a *author) assign() string {
	switch a.Intn(14) {
	case 4:
		return a.fill("some($p).q = $q")
	case 5:
		return a.fill("q0 = $q\nif len(q0) > 0 { q0[0] = $p }")
	case 6:
		return a.fill("p0 = $p")
	case 7:
		return a.fill("d0 = $d")
	case 0:
		return a.fill("some($p).n += $i")
	case 1:
		return a.fill("some($p).s = $s")
	case 2:
		return a.fill("some($p).p = $p")
	case 3:
		return a.fill("l0 = $l\nif len(l0) > 0 { l0[0]++ }")
	}
	const letters = "ibsplqrcdefh"
	letter := string(letters[a.Intn(len(letters))])
	name := a.known(letter)
	switch {
	case name == "":
		return "i0--"
	case letter == "i" && a.Intn(3) == 0:
		return name + []string{"++", "--"}[a.Intn(2)]
	case letter == "i" && a.Intn(2) == 0:
		return name + []string{" += ", " -= ", " *= "}[a.Intn(3)] + a.one('i')
	case letter == "s" && a.Intn(2) == 0:
		return name + " += " + a.fill("$s[:0]+\"u\"")
	}
	return name + " = " + a.one(letter[0])
}

// labelled writes a statement that a break may be meant for, at times with a label.
func (a *author) labelled(mark string, write func() string) string {
	label := ""
	if a.Intn(3) == 0 {
		label = a.fresh("m")
	}
	a.around = append(a.around, mark+label)
	text := write()
	a.around = a.around[:len(a.around)-1]
	if label != "" {
		return label + ": " + text
	}
	return text
}

// loop writes a for whose rounds are counted by a variable that nothing else writes, for it isn't among those that are known.
func (a *author) loop() string {
	return a.labelled("+", func() string {
		name := a.fresh("k")
		seen := a.fresh("i")
		first := seen + " := " + name + "\n"
		if a.Intn(3) == 0 {
			first = seen + " := func() int { return " + name + " }()\n"
		}
		return "for " + name + " := 0; " + name + " < " + strconv.Itoa(1+a.Intn(4)) + "; " + name + "++ " + a.block(first, []string{seen})
	})
}

func (a *author) choice() string {
	return a.labelled("", func() string {
		letter := "bisp"[a.Intn(4)]
		text := "switch {\n"
		if letter != 'b' {
			text = "switch " + a.one(letter) + " {\n"
		}
		count, other := 1+a.Intn(3), a.Intn(4)
		for k := range count {
			if k == other {
				text += "default:\n"
			} else {
				text += "case " + a.one(letter) + ", " + a.one(letter) + ":\n"
			}
			text += a.inner(nil)
			if k+1 < count && a.Intn(3) == 0 {
				text += "fallthrough\n"
			}
		}
		return text + "}"
	})
}

// inner are statements of a scope of their own, without the braces.
func (a *author) inner(names []string) string {
	return strings.TrimSuffix(strings.TrimPrefix(a.block("", names), "{\n"), "}")
}

func (a *author) selection() string {
	return a.labelled("", func() string {
		text := "select {\n"
		for range 1 + a.Intn(3) {
			channel, item := "ced"[a.Intn(3)], "isp"
			letter := item[strings.IndexByte("ced", channel)]
			name := a.fresh(string(letter))
			switch a.Intn(3) {
			case 0:
				text += a.fill("case $"+string(channel)+" <- $"+string(letter)+":\n") + a.inner(nil)
			case 1:
				text += a.fill("case <-$"+string(channel)+":\n") + a.inner(nil)
			default:
				text += a.fill("case "+name+" := <-$"+string(channel)+":\n") + a.inner([]string{name})
			}
		}
		if a.Intn(3) > 0 {
			text += "default:\n" + a.inner(nil)
		}
		return text + "}"
	})
}

func (a *author) jump() string {
	if len(a.around) == 0 || a.Intn(4) == 0 {
		if a.result == "" {
			return "return"
		}
		return "return " + a.one(a.result[0])
	}
	to := a.around[a.Intn(len(a.around))]
	label := strings.TrimPrefix(to, "+")
	if to[:len(to)-len(label)] == "+" && a.Intn(2) == 0 {
		return strings.TrimSpace("continue " + label)
	}
	return strings.TrimSpace("break " + label)
}

// written is a source by chance; empty, if it came to be greater than a source may be.
func written(chance *rand.Rand, parts int) string {
	a := &author{Rand: chance}
	a.scopes = []map[string][]string{{"i": {"i0"}, "s": {"s0"}, "p": {"p0"}, "l": {"l0"}, "q": {"q0"}, "c": {"c0"}, "d": {"d0"}}, {}}
	text := prelude + "func main() {\nc0 = make(chan int, " + strconv.Itoa(a.Intn(3)) + ")\nd0 = make(chan *T, " + strconv.Itoa(a.Intn(3)) + ")\ndone := make(chan int)\n"
	for range 1 + a.Intn(2) {
		name := a.fresh("c")
		text += name + " := make(chan int, " + strconv.Itoa(a.Intn(3)) + ")\n"
		a.add(name)
	}
	started := 0
	for range 2 + a.Intn(4) {
		a.left = parts
		text += a.define() + "\n"
		if a.Intn(3) == 0 {
			text += a.fill("func() $G()\n")
			continue
		}
		started++
		text += "go func() " + a.function("", nil, "defer func() { print(\"?\", recover()); done <- 1 }()\n") + "()\n"
	}
	text += strings.Repeat("<-done\n", a.Intn(started+1)) + "print(i0, s0, depth(p0), len(q0), len(d0))\n}\n"
	if _, fault := check.Check(text); fault.Stage == api.TooDeep || fault.Stage == api.TooBig || a.names > api.MaxVars/2 || strings.Count(text, "func") > api.MaxFuncs {
		return ""
	}
	return text
}
