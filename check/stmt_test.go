package check_test

import (
	"strings"
	"testing"
)

// fitting tells whether a thing fits a type that is one of the world's.
func fitting(e thing, to string) bool {
	isNilable := to != "int" && to != "bool" && to != "string"
	return e.typ != "" && e.typ == to || e.typ == "nil" && isNilable
}

// worldTypes are the types of the world's variables as they are written.
var worldTypes = []thing{
	{"int", "int"}, {"bool", "bool"}, {"string", "string"}, {"*T", "*T"}, {"*U", "*U"}, {"[]int", "[]int"}, {"[]*T", "[]*T"}, {"[][]int", "[][]int"},
	{"chan int", "chan int"}, {"chan *T", "chan *T"}, {"func()", "func()"}, {"func() int", "func()int"}, {"func(int, *T) string", "func(int,*T)string"},
}

// TestWhereThingsFit lays each thing into each place where something of each type is wanted.
func TestWhereThingsFit(t *testing.T) {
	for _, e := range things {
		for _, to := range worldTypes {
			for _, form := range []string{
				"var x TYPE = THING", "var x TYPE; x = THING", "var x []TYPE; x[0] = THING", "var x chan TYPE; x <- THING",
				"var x chan TYPE; select { case x <- THING: }", "x := func() TYPE { return THING }; x = nil", "var x func(TYPE); x(THING)", "var x func(int, TYPE); x(1, THING)",
			} {
				src := strings.NewReplacer("TYPE", to.text, "THING", e.text).Replace(form)
				asked(t, inWorld(src), fitting(e, to.typ))
			}
		}
		asked(t, inWorld("t.n = "+e.text), fitting(e, "int"))
		asked(t, inWorld("t.p = "+e.text), fitting(e, "*T"))
		asked(t, inWorld("t.l[0].p = "+e.text), fitting(e, "*T"))
		asked(t, inWorld("go func(a int, b *T) { }(1, "+e.text+")"), fitting(e, "*T"))
		asked(t, inWorld("defer func(a int) { }("+e.text+")"), fitting(e, "int"))
	}
}

func TestDefineAndVar(t *testing.T) {
	for _, e := range things {
		asked(t, inWorld("x := "+e.text), e.typ != "" && e.typ != "nil")
	}
	for _, to := range worldTypes {
		right(t, inWorld("var x "+to.text))
	}
	for _, stmts := range []string{"var x int = x", "x := x", "x := func() { x() }", "x := 1; x := 2", "var x int; var x int", "var x int; x := 1", "x := 1; var x int", "var x *V"} {
		wrong(t, inMain(stmts))
	}
}

func TestOperatorAssignments(t *testing.T) {
	for _, to := range things {
		if !isVariable(to.text) {
			continue
		}
		for _, from := range things {
			same := to.typ == from.typ
			asked(t, inWorld(to.text+" += "+from.text), same && (to.typ == "int" || to.typ == "string"))
			asked(t, inWorld(to.text+" -= "+from.text), same && to.typ == "int")
			asked(t, inWorld(to.text+" *= "+from.text), same && to.typ == "int")
		}
		asked(t, inWorld(to.text+"++"), to.typ == "int")
		asked(t, inWorld(to.text+"--"), to.typ == "int")
	}
}

func isVariable(text string) bool {
	return text != "nil" && text != "g0" && text != "g1" && !strings.HasSuffix(text, ")")
}

func TestTargets(t *testing.T) {
	for _, target := range []string{"i", "li[0]", "ll[0][1]", "t.n", "t.p.n", "t.l[0].n", "f1target().n", "lists()[0]", "func() *T { return t }().n", "[]int{1}[0]", "(li)[0]", "new(T).n", "make([]int, 1)[0]", "ll[1:][0][1]"} {
		for _, action := range []string{" = 1", " += 1", " -= 1", " *= 1", "++", "--"} {
			right(t, world+"func f1target() *T { return t }\nfunc lists() []int { return li }\n"+inMain(target+action))
		}
	}
	for _, target := range []string{"s[0]", `"a"[0]`, "g0", "main", "x", "T", "t.q", "u.n", "i.n", "i[0]", "t[0]", "ci[0]", "li[b]", "li[nil]", "s[1:][0]"} {
		for _, action := range []string{" = 1", " += 1", " -= 1", " *= 1", "++", "--", " = nil"} {
			wrong(t, inWorld(target+action))
		}
	}
	wrong(t, inWorld("g0 = g0"))
	wrong(t, inWorld("main = main"))
	right(t, inWorld("g0 := g0; g0 = nil"))
}

func TestConditions(t *testing.T) {
	for _, e := range things {
		isBool := e.typ == "bool"
		asked(t, inWorld("if "+e.text+" { }"), isBool)
		asked(t, inWorld("if b { } else if "+e.text+" { }"), isBool)
		asked(t, inWorld("for "+e.text+" { }"), isBool)
		asked(t, inWorld("for ; "+e.text+"; { }"), isBool)
	}
	right(t, inWorld("for { }"))
	right(t, inWorld("for ; ; { }"))
	for _, part := range []string{"x", "1 + s", "f2()"} {
		wrong(t, inWorld("if b { } else { print("+part+") }"))
		wrong(t, inWorld("if b { print("+part+") }"))
		wrong(t, inWorld("for { print("+part+") }"))
		wrong(t, inWorld("for print("+part+"); ; { }"))
		wrong(t, inWorld("for ; ; print("+part+") { }"))
	}
	right(t, inWorld("for print(1); b; f1() { }"))
	right(t, inWorld("for i = 0; i < 3; i++ { }"))
	right(t, inWorld("for ci <- 1; ; <-ci { }"))
	wrong(t, inWorld("for len(s); ; { }"))
	wrong(t, inWorld("for ; ; len(s) { }"))
}

func TestSwitch(t *testing.T) {
	equal := pairs("==")
	for _, e := range things {
		_, itself := equal[[2]string{e.typ, e.typ}]
		asked(t, inWorld("switch "+e.text+" { }"), itself)
		asked(t, inWorld("switch "+e.text+" { default: }"), itself)
		asked(t, inWorld("switch { case "+e.text+": }"), e.typ == "bool")
		asked(t, inWorld("switch { case b, "+e.text+": }"), e.typ == "bool")
		for _, other := range things {
			_, both := equal[[2]string{e.typ, other.typ}]
			asked(t, inWorld("switch "+e.text+" { case "+other.text+": }"), itself && both)
			asked(t, inWorld("switch "+e.text+" { case "+e.text+": ; case "+e.text+", "+other.text+": }"), itself && both)
		}
	}
	right(t, inWorld("switch { }"))
	right(t, inWorld("switch { default: ; case b: }"))
	right(t, inWorld("switch i { case 1, 1, 1: ; case 1: }"))
	wrong(t, inWorld("switch { default: ; default: }"))
	wrong(t, inWorld("switch i { default: ; case 1: ; default: }"))
	wrong(t, inWorld("switch { default: print(x) }"))
	right(t, inWorld("switch { default: switch { default: } }"))
}

func TestSelect(t *testing.T) {
	for _, e := range things {
		item, isChannel := strings.CutPrefix(e.typ, "chan ")
		asked(t, inWorld("select { case <-"+e.text+": }"), isChannel)
		asked(t, inWorld("select { case x := <-"+e.text+": x = x }"), isChannel)
		asked(t, inWorld("select { case x := <-"+e.text+": x++ }"), item == "int" && isChannel)
		asked(t, inWorld("select { case "+e.text+" <- i: }"), e.typ == "chan int")
		asked(t, inWorld(e.text+" <- i"), e.typ == "chan int")
		asked(t, inWorld(e.text+" <- nil"), e.typ == "chan *T")
		if !strings.HasSuffix(e.text, ")") {
			asked(t, inWorld("<-"+e.text), isChannel)
		}
	}
	right(t, inWorld("select { }"))
	right(t, inWorld("select { default: }"))
	right(t, inWorld("select { default: ; case <-ci: }"))
	wrong(t, inWorld("select { default: ; default: }"))
	wrong(t, inWorld("select { default: ; case <-ci: ; default: }"))
	right(t, inWorld("select { default: select { default: } }"))
	wrong(t, inWorld("select { case <-ci: print(x) }"))
	wrong(t, inWorld("select { case ci <- 1: print(x) }"))
	wrong(t, inWorld("select { default: print(x) }"))
	wrong(t, inWorld("select { case <-ci: print(x); case x := <-ci: }"))
	wrong(t, inWorld("select { case x := <-ci: ; case <-ci: print(x) }"))
}

func TestGoAndDefer(t *testing.T) {
	for _, word := range []string{"go ", "defer "} {
		for _, call := range []string{"g0()", "g1(li)", "f0()", "f1()", "f2(i, t)", "t.f(1)", "func() { }()", "func() int { return 1 }()", "main()", "[]func(){g0}[0]()"} {
			right(t, inWorld(word+call))
		}
		for _, call := range []string{"append(li, 1)", "cap(li)", "close(ci)", "len(s)", "panic(s)", "print(1)", "recover()", "print()", "x()", "i()", "g1()", "g1(i)", "f0(1)", "f0()()", "nil()"} {
			wrong(t, inWorld(word+call))
		}
	}
}

func TestAlone(t *testing.T) {
	for _, stmt := range []string{"g0()", "g1(li)", "f1()", "f2(i, nil)", "close(ci)", "panic(s)", "print(i, b, s)", "recover()", "<-ci", "<-ct", "func() int { return 1 }()"} {
		right(t, inWorld(stmt))
	}
	for _, stmt := range []string{"len(s)", "cap(li)", "append(li)", "append(li, 1)", "<-i", "<-nil", "<-f0()", "<-t"} {
		wrong(t, inWorld(stmt))
	}
}

func TestReturn(t *testing.T) {
	right(t, "func f() { return }\nfunc main() { return }")
	right(t, "func f() int { return 1 }\nfunc g() *T { return nil }\ntype T struct { }"+emptyMain)
	for _, src := range []string{
		"func f() { return 1 }", "func f() { return nil }", "func f() { return f() }", "func f() int { return }", "func f() int { return nil }", "func f() int { return true }",
		"func f() int { return g() }\nfunc g() { }", "func f() int { if true { return }; return 1 }", "func f() int { x := func() bool { return 1 }; x(); return 1 }",
		"func f() { x := func() int { return }; x() }", "func f() int { x := func() { return 1 }; x(); return 1 }",
	} {
		wrong(t, src+emptyMain)
	}
	right(t, "func f() int { x := func() bool { return true }; x(); y := func() { return }; y(); return 1 }"+emptyMain)
}

func TestScopes(t *testing.T) {
	for _, stmts := range []string{
		"x := 1; { x := s; x = s }; x++",
		"x := 1; { x++; x := s; x += s }; x++",
		"x := 1; { y := x; x := s; y++; x += s }",
		"x := 1; if b { x := s; x += s } else { x := b; x = !x }; x++",
		"x := 1; if b { } else if b { x := s; x += s }; x++",
		"for x := 0; x < 3; x++ { x := s; x += s }",
		"x := s; for x := 0; x < 3; x++ { }; x += s",
		"x := 1; for x := x; x < 3; x++ { x := x == 1; x = !x }; x++",
		"for ; b; x := 1 { x++ }",
		"for x := 0; ; y := x { y = x }",
		"for x := 0; b; { }; for x := s; b; { x += s }",
		"switch { case b: x := 1; x++; case !b: x := s; x += s; default: x := b; x = !x }",
		"x := 1; switch x { case x: x := s; x += s; case x + 1: }; x++",
		"select { case x := <-ci: x++; case x := <-ct: x.n++; case ci <- 1: x := s; x += s; default: x := b; x = !x }",
		"select { case ci := <-ci: ci++ }",
		"select { case x := <-ci: { x := s; x += s }; x++ }",
		"x := 1; select { case x := <-ct: x.n++; case ci <- x: x++ }; x++",
		"{ x := 1; x++ }; { x := s; x += s }; x := b; x = !x",
		"x := 1; f := func(x string) string { x += s; { x := 1; x++ }; return x }; x++; f(s)",
		"x := 1; f := func() { x++; x := s; x += s }; x++; f()",
		"f := func(a int) { { a := s; a += s }; a++ }; f(1)",
		"i := s; i += s", "i := i; i++", "main := 1; main++", "g0 := 1; g0++; { g0 := s; g0 += s }", "T := 1; T++; x := new(T); x.n++; var y *T = &T{n: T}; y = x",
		"var x int = 1; { var x string = s; x += s }; x++",
		"{ i := s; i += s }; i++",
	} {
		right(t, inWorld(stmts))
	}
	for _, stmts := range []string{
		"{ x := 1 }; x++", "if b { x := 1 }; x++", "if b { x := 1 } else { x++ }", "if b { } else { x := 1 }; x++", "for { x := 1 }; x++",
		"for x := 0; b; { }; x++", "for x++; b; x := 1 { }", "for ; x; x := b { }", "for x := 0; b; x := 1 { }", "for ; b; { x := 1; x++ }; x++", "for ; b; x++ { x := 1 }",
		"switch { case b: x := 1; case b: x++ }", "switch { case b: x := 1; fallthrough; default: x++ }", "switch { default: x := 1 }; x++", "switch { case b: x := 1; x := 2 }",
		"select { case x := <-ci: }; x++", "select { case x := <-ci: x := 1 }", "select { case x := <-x: }", "select { case x := <-ci: ; default: x++ }", "select { default: x := 1; x := 2 }",
		"x++; x := 1", "x := 1; x := s", "f := func() { x := 1 }; f(); x++", "f := func(a int) { }; f(a)", "f := func() { x++ }; x := 1; f()", "f := func() { f() }",
		"f := func(a int) { a := 1 }", "f := func(a int) { var a int }", "f := func(a int, a int) { }", "{ x := 1; { x := 2; x := 3 } }",
		"i := s; i++", "main := 1; main()", "g0 := 1; g0()", "x := 1; { x := s; x++ }", "x := 1; f := func(x string) { x++ }",
	} {
		wrong(t, inWorld(stmts))
	}
	wrong(t, "func f(a int) { a := 1 }"+emptyMain)
	wrong(t, "func f(a int) { }\nfunc g() { a = 1 }"+emptyMain)
	right(t, "func f(a int) { { a := 1; a++ } }\nfunc g(a string) { b := a; b += a }\nfunc h(f int, h int) { f = h }"+emptyMain)
	wrong(t, "func f(f int) { f() }"+emptyMain)
}

// TestScopesAreEmptyAgain: a scope has nothing of those that were left ahead of it.
func TestScopesAreEmptyAgain(t *testing.T) {
	blocks := []string{"{ %s }", "if b { %s }", "if b { } else { %s }", "for { %s }", "for ; b; { %s }", "switch { case b: %s }", "switch { default: %s }", "select { default: %s }", "select { case <-ci: %s }", "func() { %s }()", "func(a int) { %s }(1)"}
	for _, first := range blocks {
		for _, second := range blocks {
			fill := func(a, b string) string {
				return inWorld(strings.Replace(first, "%s", a, 1) + "; " + strings.Replace(second, "%s", b, 1))
			}
			right(t, fill("x := 1; x++", "x := s; x += s"))
			wrong(t, fill("x := 1", "x++"))
			wrong(t, fill("x := 1; x++", "x++; x := 1"))
		}
	}
}

func TestJumps(t *testing.T) {
	for _, stmts := range []string{
		"for { break }", "for { continue }", "switch { default: break }", "select { default: break }", "for { switch { default: continue } }", "for { select { default: continue; case <-ci: break } }",
		"L: for { break L }", "L: for { continue L }", "L: switch { default: break L }", "L: select { default: break L }",
		"L: for { M: for { break L; continue L; break M; continue M; break; continue } }", "L: for { switch { default: break L; case b: continue L } }", "L: switch { default: for { break L } }",
		"L: for { }; L: for { }", "L: for { break L }; for { L: switch { default: break L } }", "for { if b { { break } } else { continue } }",
		"L: for { f := func() { L: for { break L } }; f() }", "L: switch { case func() bool { L: for { break L }; return b }(): }", "L: for { }", "i: for { break i }", "L := 1; L: for { L++; break L }", "main: for { break main }",
		"for { f := func() { for { break; continue } }; f(); break }",
		"L: for x := func() int { return 1 }(); ; { x++; break L }",
	} {
		right(t, inWorld(stmts))
	}
	for _, stmts := range []string{
		"break", "continue", "if b { break }", "{ continue }", "switch { default: continue }", "select { default: continue }", "for { }; break", "switch { }; break",
		"break L", "continue L", "for { break L }", "for { continue L }", "L: for { }; break L", "L: for { }; for { break L }", "L: for { break M }", "L: for { continue M }",
		"L: switch { default: continue L }", "L: select { default: continue L }", "for { L: switch { default: continue L } }", "L: switch { default: for { continue L } }",
		"L: for { L: for { } }", "L: for { L: switch { } }", "L: switch { default: L: select { } }", "L: for { M: for { L: for { } } }", "L: select { case <-ci: if b { L: for { } } }",
		"for { f := func() { break } }", "for { f := func() { continue } }", "L: for { f := func() { break L } }", "L: for { f := func() { for { break L } } }", "L: for { f := func() { for { continue L } } }",
		"switch { default: f := func() { break } }", "for ; func() bool { break; return b }(); { }", "for l := 1; ; { break l }", "for { break i }",
	} {
		wrong(t, inWorld(stmts))
	}
}

func TestFallthrough(t *testing.T) {
	for _, stmts := range []string{
		"switch { case b: fallthrough; default: }", "switch { default: fallthrough; case b: }", "switch i { case 1: fallthrough; case 2: i++; fallthrough; case 3: }", "switch { case b: x := 1; x++; fallthrough;; case b: }",
		"L: switch { case b: fallthrough; case b: break L }", "switch { case b: switch { case b: fallthrough; default: }; fallthrough; default: }",
	} {
		right(t, inWorld(stmts))
	}
	for _, stmts := range []string{
		"fallthrough", "for { fallthrough }", "switch { case b: fallthrough }", "switch { default: fallthrough }", "switch { case b: ; default: fallthrough }", "switch { case b: fallthrough; i++; default: }",
		"switch { case b: { fallthrough }; default: }", "switch { case b: if b { fallthrough }; default: }", "switch { case b: for { fallthrough }; default: }", "switch { case b: fallthrough; fallthrough; default: }",
		"select { case <-ci: fallthrough; default: }", "select { default: fallthrough }", "switch { case b: select { default: fallthrough }; default: }", "switch { case b: f := func() { fallthrough }; default: }",
		"switch { case b: x := 1; fallthrough; case b: x++ }", "switch { case b: y++; fallthrough; case b: }", "switch { case b: switch { case b: fallthrough }; default: }",
	} {
		wrong(t, inWorld(stmts))
	}
}

// ending are blocks' stmts that end, and open ones that don't; both are right but for that.
var ending = []string{
	"return 1", "panic(s)", "i++; return 1", "{ return 1 }", "{ { panic(s) } }", "if b { return 1 } else { return 2 }", "if b { return 1 } else if b { return 2 } else { panic(s) }", "if b { for { } } else { select { } }",
	"for { }", "for ; ; { }", "for i = 0; ; i++ { }", "for { return 1 }", "for { i++ }", "for { continue }", "for { for { break } }", "for { switch { default: break } }", "for { select { default: break } }", "for { f := func() { for { break } }; f() }",
	"L: for { }", "L: for { continue L }", "L: for { for { continue L } }", "L: for { M: for { break M } }", "for { for b { break } }", "for { L: for { break L } }",
	"select { }", "select { case <-ci: return 1 }", "select { case <-ci: return 1; default: panic(s) }", "select { case x := <-ci: return x; case ci <- 1: for { } }", "L: select { default: for { break }; return 1 }", "L: select { case <-ci: return 1 }",
	"switch { default: return 1 }", "switch { case b: return 1; default: panic(s) }", "switch { default: return 1; case b: return 2 }", "switch i { case 1: fallthrough; case 2: return 1; default: fallthrough; case 3: return 3 }",
	"L: switch { default: return 1 }", "switch { default: for { break }; return 1 }", "switch { default: L: for { break L }; return 1 }", "switch { case b: i++; fallthrough; default: return 1 }", "return 1; return 2", "break0(); return 1",
	"L: for { f := func() { L: for { break L } }; f() }",
}

var open = []string{
	"", "i++", "return 1; i++", "panic(s); i++", "{ }", "{ return 1; { } }", "if b { return 1 }", "if b { return 1 } else { }", "if b { } else { return 1 }", "if b { return 1 } else if b { return 2 }", "if b { return 1 } else if b { } else { return 1 }",
	"for b { }", "for true { }", "for ; b; { }", "for b { return 1 }", "for { break }", "for { if b { break }; return 1 }", "for { return 1; break }", "L: for { break L }", "L: for { for { break L } }", "L: for { switch { default: break L } }", "L: for { select { default: break L } }", "L: for { break }", "for { { break } }", "for ; ; { if b { } else { break } }",
	"L: for { for { }; M: for { break L } }", "for { }; i++", "L: for b { }",
	"select { default: }", "select { case <-ci: return 1; default: }", "select { case <-ci: return 1; case <-ct: i++ }", "select { case <-ci: break }", "select { case <-ci: if b { break }; return 1 }", "L: select { default: break L }", "L: select { default: for { break L } }", "select { case <-ci: ; default: return 1 }",
	"switch { }", "switch { case b: return 1 }", "switch b { case true: return 1; case false: return 2 }", "switch { default: }", "switch { default: return 1; case b: }", "switch { case b: ; default: return 1 }", "switch { default: break }", "switch { default: if b { break }; return 1 }", "switch { case b: fallthrough; default: i++ }", "switch { case b: break; default: return 1 }", "switch { case b: return 1; default: i++ }",
	"L: switch { default: break L }", "L: switch { default: for { break L } }", "L: switch { default: for { break }; for { break L } }", "switch { case b: fallthrough; case b: return 1 }", "f1()", "print(1)", "recover()", "<-ci", "go g0()", "x := func() int { return 1 }; x()", "main()", "x := func() { panic(s) }; x()", "defer g0()", "L: for { f := func() { return }; f(); break L }",
}

// TestEnds asks it of functions of the file and in exprs, and of blocks around.
func TestEnds(t *testing.T) {
	around := []string{"%s", "{ %s }", "if b { %s } else { return 7 }", "if b { return 7 } else { %s }", "for { i++; %s; break }; return 7", "switch { default: i++; %s }", "switch i { case 1: %s; default: return 7 }", "select { case <-ci: %s }"}
	for _, form := range around {
		endsAnyway := strings.HasSuffix(form, "return 7")
		for _, stmts := range ending {
			right(t, ended(strings.Replace(form, "%s", stmts, 1)))
		}
		for _, stmts := range open {
			asked(t, ended(strings.Replace(form, "%s", stmts, 1)), endsAnyway)
		}
	}
}

// ended is a source with two functions that have these stmts: both have a result, and a third has none.
func ended(stmts string) string {
	return world + "func break0() { }\nfunc fun() int { " + stmts + " }\nfunc main() { x := func() int { " + stmts + " }; x() }"
}

func TestNoResultNeedsNoEnd(t *testing.T) {
	for _, stmts := range open {
		if !strings.Contains(stmts, "return") {
			right(t, world+"func fun() { "+stmts+" }\nfunc main() { x := func() { "+stmts+" }; x() }")
		}
	}
}

// TestEachPartIsAsked lays what is wrong into each place that a part has.
func TestEachPartIsAsked(t *testing.T) {
	places := []string{
		"x := %", "var x int = %", "i = %", "i += %", "li[%] = 1", "lt[%].n = 1", "li[%]++", "ci <- %", "if % == 1 { }", "for % == 1 { }", "for ; % == 1; { }", "for i = %; ; { }", "for ; ; i = % { }",
		"switch % { }", "switch i { case %: }", "switch i { case 1, %: }", "switch i { case 1: ; case %: }", "switch { case % == 1: }", "select { case ci <- %: }", "select { case <-[]chan int{ci}[%]: }", "select { case x := <-[]chan int{ci}[%]: }", "select { case []chan int{ci}[%] <- 1: }",
		"go func(a int) { }(%)", "defer func(a int) { }(%)", "f2(%, t)", "[]func(){g0}[%]()", "print(%)", "print(1, %)", "x := -%", "x := 1 + %", "x := % + 1", "x := li[%]", "x := s[%:]", "x := s[:%]", "x := [][]int{li}[%][:]", "x := lt[%].n", "x := &T{n: %}", "x := []int{%}", "x := []int{1, %}",
		"x := make([]int, %)", "x := append(li, %)", "x := len([]string{s}[%])", "x := func() int { return % }", "x := (%)", "x := b && % == 1",
		"{ i = % }", "if b { i = % }", "if b { } else { i = % }", "for { i = % }", "L: for { i = % }", "switch { case b: i = % }", "switch { case b: i = %; fallthrough; default: }", "switch { default: i = % }", "select { default: i = % }", "select { case <-ci: i = % }", "func() { i = % }()",
	}
	for _, place := range places {
		in := func(part string) string { return inWorld(strings.Replace(place, "%", "("+part+")", 1)) }
		right(t, in("1"))
		right(t, in("i + len(s)"))
		for _, part := range []string{"y", "nil", "g0()", "1 + b", "f1(1)", "func() int { }()", "len(i)", "t.q"} {
			wrong(t, in(part))
		}
	}
}
