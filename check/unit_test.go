package check_test

import (
	"reflect"
	"strings"
	"testing"

	"derrick/api"
)

// shown writes a unit's variables as name:type:function, with a ! of those that are boxed.
func shown(vars []api.Var) string {
	var parts []string
	for _, v := range vars {
		part := v.Name + ":" + v.Type + ":" + decimal(v.Func)
		if v.Boxed {
			part += "!"
		}
		parts = append(parts, part)
	}
	return strings.Join(parts, " ")
}

// shownFuncs writes a unit's functions as name:type:outer, and the numbers of the params.
func shownFuncs(funcs []api.Func) string {
	var parts []string
	for _, f := range funcs {
		part := f.Name + ":" + f.Type + ":" + decimal(f.Outer)
		for _, param := range f.Params {
			part += "," + decimal(param)
		}
		parts = append(parts, part)
	}
	return strings.Join(parts, " ")
}

func TestNumbers(t *testing.T) {
	for _, c := range []struct{ src, vars, funcs string }{
		{"func main() { }", "", "main:func():0"},
		{"var b int\nfunc main() { x := 1 }\nvar a bool", "b:int:0 a:bool:0 x:int:1", "main:func():0"},
		{"func f(a int, b bool) string { c := a; for { c++ } }\nfunc main() { d := f }\nfunc g(a chan int) { e := a }",
			"a:int:1 b:bool:1 c:int:1 d:func(int,bool)string:2 a:chan int:3 e:chan int:3", "f:func(int,bool)string:0,1,2 main:func():0 g:func(chan int):0,5"},
		{"func main() { f := func(a int) { b := func(c int) { d := 1 }; e := 2 }; g := func(h int) { } }",
			"a:int:2 c:int:3 d:int:3 b:func(int):2 e:int:2 f:func(int):1 h:int:4 g:func(int):1", "main:func():0 :func(int):1,1 :func(int):2,2 :func(int):1,7"},
		{"func main() { var f func() int = func() int { x := 1; return x }; y := 1 }", "x:int:2 f:func()int:1 y:int:1", "main:func():0 :func()int:1"},
		{"func f() { func() { a := 1 }() }\nfunc main() { func() { b := 2 }() }\nfunc g() { c := 3 }", "a:int:4 b:int:5 c:int:3", "f:func():0 main:func():0 g:func():0 :func():1 :func():2"},
		{"func main() { for a := func() int { b := 1; return b }(); func() bool { c := true; return c }(); d := func() int { e := 1; return e }() { f := 1 } }",
			"b:int:2 a:int:1 c:bool:3 e:int:4 d:int:1 f:int:1", "main:func():0 :func()int:1 :func()bool:1 :func()int:1"},
		{"func main() { select { case a := <-func() chan int { b := make(chan int); return b }(): c := a; case func() chan int { d := make(chan int); return d }() <- func() int { e := 1; return e }(): f := 1; default: g := 1 } }",
			"b:chan int:2 a:int:1 c:int:1 d:chan int:3 e:int:4 f:int:1 g:int:1", "main:func():0 :func()chan int:1 :func()chan int:1 :func()int:1"},
		{"func main() { switch func() int { a := 1; return a }() { case func() int { b := 1; return b }(), func() int { c := 1; return c }(): d := 1; default: e := 1 } }",
			"a:int:2 b:int:3 c:int:4 d:int:1 e:int:1", "main:func():0 :func()int:1 :func()int:1 :func()int:1"},
		{"func main() { if func() bool { a := true; return a }() { b := 1 } else if func() bool { c := true; return c }() { d := 1 } else { e := 1 } }",
			"a:bool:2 b:int:1 c:bool:3 d:int:1 e:int:1", "main:func():0 :func()bool:1 :func()bool:1"},
		{"func main() { func() []int { a := []int{}; return a }()[func() int { b := 1; return b }()] = func() int { c := 1; return c }() }",
			"a:[]int:2 b:int:3 c:int:4", "main:func():0 :func()[]int:1 :func()int:1 :func()int:1"},
	} {
		unit := right(t, c.src)
		if got := shown(unit.Vars); got != c.vars {
			t.Errorf("%s: %s, not %s", c.src, got, c.vars)
		}
		if got := shownFuncs(unit.Funcs); got != c.funcs {
			t.Errorf("%s: %s, not %s", c.src, got, c.funcs)
		}
	}
}

func TestBoxed(t *testing.T) {
	for _, c := range []struct{ src, vars string }{
		{"func main() { x := 1; f := func() { x = 2 } }", "x:int:1! f:func():1"},
		{"func main() { x := 1; f := func() { print(x) } }", "x:int:1! f:func():1"},
		{"func main() { x := 1; f := func() { y := func() { x++ } } }", "x:int:1! y:func():2 f:func():1"},
		{"func main() { x := 1; f := func() { x := 2; x++ }; x++ }", "x:int:1 x:int:2 f:func():1"},
		{"func main() { x := 1; f := func() { x := x; x++ } }", "x:int:1! x:int:2 f:func():1"},
		{"func main() { x := 1; f := func(x int) { x++ }; f(x) }", "x:int:1 x:int:2 f:func(int):1"},
		{"func f(a int, b int) { g := func(c int, d int) { a = c; h := func() { print(d) } } }\nfunc main() { }", "a:int:1! b:int:1 c:int:3 d:int:3! h:func():3 g:func(int,int):1"},
		{"var x int\nfunc main() { x++; f := func() { x++ } }", "x:int:0 f:func():1"},
		{"func main() { var x func(); x = func() { x() } }", "x:func():1!"},
		{"func main() { for x := 0; x < 1; x++ { go func() { x++ }() }; for x := 0; x < 1; x++ { } }", "x:int:1! x:int:1"},
		{"var c chan int\nfunc main() { select { case x := <-c: defer func() { x++ }(); case x := <-c: x++ } }", "c:chan int:0 x:int:1! x:int:1"},
		{"func main() { f := func() { }; g := f; g(); func() { f() }() }", "f:func():1! g:func():1"},
	} {
		if got := shown(right(t, c.src).Vars); got != c.vars {
			t.Errorf("%s: %s, not %s", c.src, got, c.vars)
		}
	}
}

func TestStructs(t *testing.T) {
	unit := right(t, "type U struct { }\nfunc main() { }\ntype T struct { a int; b func(*T, chan bool) []*U; }")
	want := []api.Struct{{Name: "U"}, {Name: "T", Fields: []api.Field{{Name: "a", Type: "int"}, {Name: "b", Type: "func(*T,chan bool)[]*U"}}}}
	if !reflect.DeepEqual(unit.Structs, want) || unit.Main != 1 {
		t.Errorf("%v", unit)
	}
}

// TestTree writes a whole unit out.
func TestTree(t *testing.T) {
	unit := right(t, "func g(a *T) { }\nfunc main() { f := func() int { return x }; g(nil) }\nvar x int\ntype T struct { }")
	n := func(kind, at int, text, typ string, ref int, kids ...api.Node) api.Node {
		return api.Node{Kind: kind, At: at, Text: text, Type: typ, Ref: ref, Kids: kids}
	}
	want := api.Unit{
		Structs: []api.Struct{{Name: "T"}},
		Vars:    []api.Var{{Name: "x", Type: "int"}, {Name: "a", Type: "*T", Func: 1}, {Name: "f", Type: "func()int", Func: 2}},
		Funcs: []api.Func{
			{Name: "g", Type: "func(*T)", Params: []int{2}, Body: n(api.SBlock, 13, "", "", 0)},
			{Name: "main", Type: "func()", Body: n(api.SBlock, 29, "", "", 0,
				n(api.SDefine, 31, "f", "", 3, n(api.EFunc, 36, "", "func()int", 3)),
				n(api.SExpr, 62, "", "", 0, n(api.ECall, 62, "", "", 0, n(api.EName, 61, "g", "func(*T)", -1), n(api.ENil, 63, "", "nil", 0))))},
			{Type: "func()int", Outer: 2, Body: n(api.SBlock, 47, "", "", 0, n(api.SReturn, 49, "", "", 0, n(api.EName, 56, "x", "int", 1)))},
		},
		Main: 2,
	}
	if !reflect.DeepEqual(plain(unit), plain(want)) {
		t.Errorf("%+v, not %+v", unit, want)
	}
}

// plain makes all empty lists nil, so that two units can be held against each other.
func plain(unit api.Unit) api.Unit {
	funcs := append([]api.Func(nil), unit.Funcs...)
	for i := range funcs {
		funcs[i].Body = plainNode(funcs[i].Body)
		funcs[i].Params = append([]int(nil), funcs[i].Params...)
	}
	unit.Funcs = funcs
	return unit
}

func plainNode(n api.Node) api.Node {
	var kids []api.Node
	for _, kid := range n.Kids {
		kids = append(kids, plainNode(kid))
	}
	n.Kids = kids
	return n
}
