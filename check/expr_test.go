package check_test

import (
	"slices"
	"strings"
	"testing"

	"derrick/api"
)

// world declares something of each kind of type.
const world = "type T struct { n int; p *T; l []*T; f func(int) bool; }\ntype U struct { }\n" +
	"var i int\nvar b bool\nvar s string\nvar t *T\nvar u *U\nvar li []int\nvar lt []*T\nvar ll [][]int\nvar ci chan int\nvar ct chan *T\n" +
	"var f0 func()\nvar f1 func() int\nvar f2 func(int, *T) string\nfunc g0() { }\nfunc g1(a []int) bool { return true }\n"

// thing is an expression of the world, with its type.
type thing struct {
	text, typ string
}

// things are of all types of the world, and nil and nothing.
var things = []thing{
	{"i", "int"}, {"b", "bool"}, {"s", "string"}, {"t", "*T"}, {"u", "*U"}, {"li", "[]int"}, {"lt", "[]*T"}, {"ll", "[][]int"},
	{"ci", "chan int"}, {"ct", "chan *T"}, {"f0", "func()"}, {"f1", "func()int"}, {"f2", "func(int,*T)string"},
	{"g0", "func()"}, {"g1", "func([]int)bool"}, {"nil", "nil"}, {"f0()", ""}, {"print()", ""},
}

func inWorld(stmts string) string {
	return world + inMain(stmts)
}

// typed checks that an expression has a type: by what its node says, and by what may be done with it.
func typed(t *testing.T, text, want string) {
	t.Helper()
	unit := right(t, inWorld("x := "+text))
	if unit.Main == 0 {
		return
	}
	stmt := unit.Funcs[unit.Main-1].Body.Kids[0]
	if got := stmt.Kids[0].Type; got != want || unit.Vars[stmt.Ref-1].Type != want {
		t.Errorf("%s: %q, not %q", text, got, want)
	}
}

// exprIs checks an expression that has the type, or none if that is empty.
func exprIs(t *testing.T, text, want string) {
	t.Helper()
	if want == "" {
		wrong(t, inWorld("x := "+text))
	} else {
		typed(t, text, want)
	}
}

func TestOperands(t *testing.T) {
	for _, e := range []thing{
		{"0", "int"}, {"999999999999999999", "int"}, {`""`, "string"}, {`"a\n"`, "string"}, {"true", "bool"}, {"false", "bool"}, {"(1)", "int"},
		{"g0", "func()"}, {"g1", "func([]int)bool"}, {"main", "func()"},
	} {
		typed(t, e.text, e.typ)
	}
	for _, e := range things {
		if e.typ != "" && e.typ != "nil" {
			typed(t, e.text, e.typ)
			typed(t, "("+e.text+")", e.typ)
		} else {
			wrong(t, inWorld("x := "+e.text))
		}
	}
	for _, name := range []string{"x", "y", "T", "U", "n", "a"} {
		wrong(t, inWorld("x := "+name))
		wrong(t, inWorld("print("+name+")"))
	}
}

func TestUnary(t *testing.T) {
	for _, e := range things {
		want := map[string]string{"-int": "int", "!bool": "bool", "<-chan int": "int", "<-chan *T": "*T"}
		for _, operator := range []string{"-", "!", "<-"} {
			exprIs(t, operator+e.text, want[operator+e.typ])
		}
	}
	typed(t, "- - i", "int")
	typed(t, "!!b", "bool")
	typed(t, "-<-ci", "int")
}

// pairs are the types of both operands with which an operator may stand, and its own type.
func pairs(operator string) map[[2]string]string {
	all := map[[2]string]string{}
	both := func(result string, texts ...string) {
		for _, text := range texts {
			all[[2]string{text, text}] = result
		}
	}
	switch operator {
	case "+":
		both("int", "int")
		both("string", "string")
	case "-", "*", "/", "%":
		both("int", "int")
	case "<", "<=", ">", ">=":
		both("bool", "int", "string")
	case "&&", "||":
		both("bool", "bool")
	case "==", "!=":
		both("bool", "int", "bool", "string", "*T", "*U", "chan int", "chan *T")
		for _, text := range []string{"*T", "*U", "[]int", "[]*T", "[][]int", "chan int", "chan *T", "func()", "func()int", "func(int,*T)string", "func([]int)bool"} {
			all[[2]string{text, "nil"}], all[[2]string{"nil", text}] = "bool", "bool"
		}
	}
	return all
}

func TestBinary(t *testing.T) {
	for _, operator := range strings.Fields("|| && == != < <= > >= + - * / %") {
		want := pairs(operator)
		for _, left := range things {
			for _, right := range things {
				exprIs(t, left.text+" "+operator+" "+right.text, want[[2]string{left.typ, right.typ}])
			}
		}
	}
	typed(t, "i + i * i - i / i % i == i && b || s + s < s", "bool")
}

// TestCalled calls each thing with no argument.
func TestCalled(t *testing.T) {
	for _, e := range things {
		src := inWorld(e.text + "()")
		asked(t, src, e.typ == "func()" || e.typ == "func()int")
		exprIs(t, e.text+"()", map[string]string{"func()int": "int"}[e.typ])
	}
}

func TestArguments(t *testing.T) {
	for _, e := range things {
		fits := func(texts ...string) string {
			if slices.Contains(texts, e.typ) {
				return "string"
			}
			return ""
		}
		exprIs(t, "f2("+e.text+", t)", fits("int"))
		exprIs(t, "f2(i, "+e.text+")", fits("*T", "nil"))
	}
	for _, text := range []string{"f2()", "f2(i)", "f2(i, t, i)", "f2(t, i)", "f1(i)", "f0(i)", "g1()", "g1(li, li)", "g1(nil, nil)", "g0(g0())", "f2(g0(), t)", "f0()()", "f1()()", "t.n()", "t.f(b)", "t.f()"} {
		wrong(t, inWorld(text))
	}
	for _, text := range []string{"f2(i, t)", "f2(i, nil)", "g1(li)", "g1(nil)", "g0()", "t.f(i)", "f2(f1(), t.p)", "func() { }()", "func(a int) int { return a }(i)", "(f0)()"} {
		right(t, inWorld(text))
	}
	typed(t, "t.f(i)", "bool")
	typed(t, "func(a int) func() chan int { return nil }(i)()", "chan int")
	eight := "func(a int, b int, c int, d int, e int, f int, g int, h int) int { return h }"
	typed(t, eight+"(1, 2, 3, 4, 5, 6, 7, 8)", "int")
	wrong(t, inWorld(eight+"(1, 2, 3, 4, 5, 6, 7)"))
	wrong(t, inWorld(eight+"(1, 2, 3, 4, 5, 6, 7, 8, 9)"))
}

func TestBuiltinsOfOne(t *testing.T) {
	for _, e := range things {
		isSlice, isChannel := strings.HasPrefix(e.typ, "[]"), strings.HasPrefix(e.typ, "chan ")
		number := func(holds bool) string {
			if holds {
				return "int"
			}
			return ""
		}
		exprIs(t, "len("+e.text+")", number(e.typ == "string" || isSlice || isChannel))
		exprIs(t, "cap("+e.text+")", number(isSlice || isChannel))
		asked(t, inWorld("close("+e.text+")"), isChannel)
		asked(t, inWorld("panic("+e.text+")"), e.typ == "string")
		isPrinted := e.typ == "int" || e.typ == "bool" || e.typ == "string"
		asked(t, inWorld("print("+e.text+")"), isPrinted)
		asked(t, inWorld("print(1, "+e.text+")"), isPrinted)
		wrong(t, inWorld("recover("+e.text+")"))
		wrong(t, inWorld("x := close("+e.text+")"))
		wrong(t, inWorld("x := panic("+e.text+")"))
		wrong(t, inWorld("x := print("+e.text+")"))
	}
	for _, word := range []string{"len", "cap", "close", "panic"} {
		of := "ci"
		if word == "panic" {
			of = "s"
		}
		wrong(t, inWorld(word+"()"))
		wrong(t, inWorld(word+"("+of+", "+of+")"))
	}
	wrong(t, inWorld("x := len()"))
	wrong(t, inWorld("x := cap(li, li)"))
	typed(t, "recover()", "string")
	wrong(t, inWorld("x := recover(1)"))
	right(t, inWorld("print()"))
}

func TestAppend(t *testing.T) {
	wrong(t, inWorld("x := append()"))
	for _, e := range things {
		isSlice := strings.HasPrefix(e.typ, "[]")
		if isSlice {
			typed(t, "append("+e.text+")", e.typ)
		} else {
			wrong(t, inWorld("x := append("+e.text+")"))
			wrong(t, inWorld("x := append("+e.text+", i)"))
		}
		fits := func(slice string, texts ...string) string {
			if slices.Contains(texts, e.typ) {
				return slice
			}
			return ""
		}
		exprIs(t, "append(li, "+e.text+")", fits("[]int", "int"))
		exprIs(t, "append(li, 1, "+e.text+", 3)", fits("[]int", "int"))
		exprIs(t, "append(lt, "+e.text+")", fits("[]*T", "*T", "nil"))
		exprIs(t, "append(ll, "+e.text+")", fits("[][]int", "[]int", "nil"))
	}
}

func TestBuiltinsLimit(t *testing.T) {
	right(t, inMain("print("+times(api.MaxArgs, "#", ", ")+")"))
	wrong(t, inMain("print("+times(api.MaxArgs+1, "#", ", ")+")"))
	right(t, inMain("x := append([]int{}, "+times(api.MaxArgs-1, "#", ", ")+")"))
	wrong(t, inMain("x := append([]int{}, "+times(api.MaxArgs, "#", ", ")+")"))
}

func TestMakeAndNew(t *testing.T) {
	for _, typ := range []string{"int", "bool", "string", "*T", "func()", "func()[]int", "func()chan int"} {
		wrong(t, inWorld("x := make("+typ+")"))
		wrong(t, inWorld("x := make("+typ+", 1)"))
	}
	for _, e := range things {
		for _, typ := range []string{"[]int", "[]*T", "[]chan int", "chan int", "chan []int", "chan *T"} {
			want := ""
			if e.typ == "int" {
				want = typ
			}
			exprIs(t, "make("+typ+", "+e.text+")", want)
		}
	}
	typed(t, "make(chan int)", "chan int")
	typed(t, "make(chan chan *T)", "chan chan *T")
	for _, text := range []string{"make([]int)", "make([]*V, 1)", "make(chan *V)", "new(V)", "new(i)", "new(g0)", "new(x)"} {
		wrong(t, inWorld("x := "+text))
	}
	typed(t, "new(T)", "*T")
	typed(t, "new(U)", "*U")
}

func TestIndex(t *testing.T) {
	items := map[string]string{"string": "int", "[]int": "int", "[]*T": "*T", "[][]int": "[]int"}
	for _, e := range things {
		exprIs(t, e.text+"[i]", items[e.typ])
		exprIs(t, e.text+"[0]", items[e.typ])
		wrong(t, inWorld("x := "+e.text+"[b]"))
		want := ""
		if e.typ == "int" {
			want = "int"
		}
		exprIs(t, "li["+e.text+"]", want)
		exprIs(t, "s["+e.text+"]", want)
	}
	typed(t, "ll[0][li[1]]", "int")
	typed(t, `"a"[0]`, "int")
}

func TestSlicing(t *testing.T) {
	for _, e := range things {
		want := ""
		if e.typ == "string" || strings.HasPrefix(e.typ, "[]") {
			want = e.typ
		}
		for _, bounds := range []string{"[:]", "[i:]", "[:i]", "[1:i]"} {
			exprIs(t, e.text+bounds, want)
		}
		for _, of := range []thing{{"s", "string"}, {"li", "[]int"}} {
			want := ""
			if e.typ == "int" {
				want = of.typ
			}
			exprIs(t, of.text+"["+e.text+":]", want)
			exprIs(t, of.text+"[:"+e.text+"]", want)
			exprIs(t, of.text+"[0:"+e.text+"]", want)
			exprIs(t, of.text+"["+e.text+":0]", want)
		}
	}
}

func TestField(t *testing.T) {
	for _, e := range things {
		want := map[string]string{}
		if e.typ == "*T" {
			want = map[string]string{"n": "int", "p": "*T", "l": "[]*T", "f": "func(int)bool"}
		}
		for _, name := range []string{"n", "p", "l", "f", "N", "T", "i", "t"} {
			exprIs(t, e.text+"."+name, want[name])
		}
	}
	typed(t, "t.p.p.l[0].n", "int")
	wrong(t, inWorld("x := T.n"))
}

func TestObject(t *testing.T) {
	for _, e := range things {
		fits := func(texts ...string) string {
			if slices.Contains(texts, e.typ) {
				return "*T"
			}
			return ""
		}
		exprIs(t, "&T{n: "+e.text+"}", fits("int"))
		exprIs(t, "&T{p: "+e.text+"}", fits("*T", "nil"))
		exprIs(t, "&T{n: 1, l: "+e.text+"}", fits("[]*T", "nil"))
		exprIs(t, "&T{f: "+e.text+"}", fits("nil"))
		wrong(t, inWorld("x := &U{n: "+e.text+"}"))
	}
	typed(t, "&T{}", "*T")
	typed(t, "&U{}", "*U")
	typed(t, "&T{f: func(a int) bool { return b }, l: nil, p: t, n: 1}", "*T")
	for _, text := range []string{"&T{m: 1}", "&T{n: 1, n: 2}", "&T{n: 1, p: t, n: 1}", "&V{}", "&i{}", "&g0{}", "&x{}", "&T{T: 1}"} {
		wrong(t, inWorld("x := "+text))
	}
	fields := "type W struct { " + times(api.MaxFields, "a# int;", " ") + " }\n"
	right(t, fields+inMain("x := &W{"+times(api.MaxFields, "a#: #", ", ")+"}"))
	wrong(t, fields+inMain("x := &W{"+times(api.MaxFields+1, "a#: #", ", ")+"}"))
	wrong(t, fields+inMain("x := &W{"+times(api.MaxFields, "a#: #", ", ")+", a0: 1}"))
}

func TestList(t *testing.T) {
	for _, e := range things {
		fits := func(slice string, texts ...string) string {
			if slices.Contains(texts, e.typ) {
				return slice
			}
			return ""
		}
		exprIs(t, "[]int{"+e.text+"}", fits("[]int", "int"))
		exprIs(t, "[]*T{t, "+e.text+", nil}", fits("[]*T", "*T", "nil"))
		exprIs(t, "[][]int{"+e.text+"}", fits("[][]int", "[]int", "nil"))
		exprIs(t, "[]func(){"+e.text+"}", fits("[]func()", "func()", "nil"))
	}
	typed(t, "[]chan int{}", "[]chan int")
	typed(t, "[]int{1, 2, 3,}", "[]int")
	wrong(t, inWorld("x := []*V{}"))
	right(t, inMain("x := []int{"+times(api.MaxFields, "#", ", ")+"}"))
	wrong(t, inMain("x := []int{"+times(api.MaxFields+1, "#", ", ")+"}"))
}

func TestFunctionLiteral(t *testing.T) {
	typed(t, "func() { }", "func()")
	typed(t, "func(a int, b *T) []int { return nil }", "func(int,*T)[]int")
	typed(t, "func(a func(int) bool) func() { return nil }", "func(func(int)bool)func()")
	typed(t, "func(a int) int { return func(a bool) int { return 1 }(b) }", "func(int)int")
	for _, text := range []string{"func() int { }", "func() { return 1 }", "func() int { return b }", "func(a *V) { }", "func() *V { return nil }",
		"func() { x() }", "func() { y := 1; y := 2 }", "func(a int) { a := 1 }", "func() { break }", "func() { func() { y = 1 }() }", "func() { print(1 + s) }"} {
		wrong(t, inWorld("x := "+text))
	}
}
