package check_test

import (
	"strings"
	"testing"

	"derrick/api"
)

const emptyMain = "\nfunc main() { }"

func TestMain(t *testing.T) {
	right(t, "func main() { }")
	right(t, "func f() { }\nfunc main() { }\nfunc g() { }")
	for _, src := range []string{
		"", "\n", "var g int", "type T struct { }", "func f() { }", "func Main() { }",
		"func main(a int) { }", "func main() int { return 1 }", "func main(a int) int { return a }",
		"var main int", "var main func()", "type main struct { }",
		"func f() { var main func(); main() }", "func f() { main := func() { }; main() }",
	} {
		wrong(t, src)
	}
}

func TestFileNames(t *testing.T) {
	decls := []string{"type %s struct { }", "var %s int", "func %s() { }"}
	for _, first := range decls {
		for _, second := range decls {
			both := func(a, b string) string {
				return strings.Replace(first, "%s", a, 1) + "\n" + strings.Replace(second, "%s", b, 1) + emptyMain
			}
			right(t, both("a", "b"))
			wrong(t, both("a", "a"))
			wrong(t, both("a", "main"))
			wrong(t, both("main", "a"))
		}
	}
	wrong(t, "func main() { }\nfunc main() { }")
	right(t, "type a struct { a int; }\nvar b *a\nfunc c(a int, b int, c int) { }"+emptyMain)
}

// TestFileOrder: what the file declares may be used ahead of its declaration.
func TestFileOrder(t *testing.T) {
	right(t, "func main() { f(); g = new(T); g.a = 1 }\nfunc f() { main(); f() }\nvar g *T\ntype T struct { a int; b *U; c []*T; }\ntype U struct { d func(*T) *U; }")
}

func TestFields(t *testing.T) {
	fields := func(n int) string { return "type T struct { " + times(n, "a# int;", " ") + " }" + emptyMain }
	right(t, fields(0))
	right(t, fields(api.MaxFields))
	wrong(t, fields(api.MaxFields+1))
	wrong(t, "type T struct { a int; b int; a int; }"+emptyMain)
	wrong(t, "type T struct { a int; a bool; }"+emptyMain)
	right(t, "type T struct { a int; A int; main int; T int; }\ntype U struct { a int; }"+emptyMain)
	wrong(t, "type T struct { a *U; }"+emptyMain)
	right(t, "type T struct { a *T; }"+emptyMain)
}

// typePlaces are all places where a type is written.
var typePlaces = []string{
	"type T struct { a %; }" + emptyMain,
	"var g %" + emptyMain,
	"func f(a %) { }" + emptyMain,
	"func f(a int, b %) { }" + emptyMain,
	"func f() % { for { } }" + emptyMain,
	"func main() { var x % }",
	"func main() { x := func(a %) { }; x = nil }",
	"func main() { x := func() % { for { } }; x = nil }",
	"func main() { x := []%{}; x = nil }",
	"func main() { x := make(chan %); x = nil }",
	"func main() { x := make([]%, 1); x = nil }",
	"func main() { var x func(%) }",
	"func main() { var x func() % }",
	"func main() { var x func(int, []chan %) bool }",
	"func main() { if true { for { var x % } } }",
}

func TestWrittenTypes(t *testing.T) {
	for _, place := range typePlaces {
		in := func(text string) string {
			return strings.Replace(place, "%", text, 1) + "\ntype S struct { }\nvar v int\nfunc fun() { }"
		}
		for _, text := range []string{"int", "*S", "[]*S", "chan *S", "func(*S) *S", "func(" + times(api.MaxArgs, "int", ", ") + ")"} {
			right(t, in(text))
		}
		for _, text := range []string{"*R", "*v", "*fun", "*main", "[]*R", "chan *R", "func(*R)", "func() *R", "func(int, *R)",
			"func(func(chan []*R))", "func(" + times(api.MaxArgs+1, "int", ", ") + ")", "func(func(" + times(api.MaxArgs+1, "int", ", ") + "))", "[]func() func(" + times(api.MaxArgs+1, "int", ", ") + ")"} {
			wrong(t, in(text))
		}
	}
}

// typeOf is a type whose text is of that length.
func typeOf(length int) string {
	if length%2 == 1 {
		return strings.Repeat("[]", (length-3)/2) + "int"
	}
	return strings.Repeat("[]", (length-4)/2) + "bool"
}

func TestTypeLength(t *testing.T) {
	for _, src := range []string{
		"type T struct { a %; }" + emptyMain, "var g %" + emptyMain, "func f(a %) { }" + emptyMain, "func f() % { for { } }" + emptyMain,
		"func main() { var x % }", "func main() { x := func(a %) { }; x = nil }", "func main() { x := func() % { for { } }; x = nil }",
		"func main() { x := []%{}; x = nil }", "func main() { x := make(%, 1); x = nil }",
	} {
		right(t, strings.Replace(src, "%", typeOf(api.MaxType), 1))
		wrong(t, strings.Replace(src, "%", typeOf(api.MaxType+1), 1))
	}
	right(t, inMain("var x func("+typeOf(50)+", "+typeOf(50)+") "+typeOf(api.MaxType-107)))
	wrong(t, inMain("var x func("+typeOf(50)+", "+typeOf(50)+") "+typeOf(api.MaxType-106)))
}

// TestSignatureLength: a function's own type isn't written, so its text may be longer than MaxType.
func TestSignatureLength(t *testing.T) {
	params := times(api.MaxArgs, "a# "+typeOf(api.MaxType), ", ")
	args := times(api.MaxArgs, "nil", ", ")
	right(t, "func f("+params+") "+typeOf(api.MaxType)+" { return a7 }\nfunc main() { g := f; x := g("+args+"); x = f("+args+"); f("+args+") }")
	unit := right(t, "func main() { g := func("+params+") { }; g("+args+") }")
	if len(unit.Funcs) != 2 || len(unit.Funcs[1].Type) != 6+api.MaxArgs*(api.MaxType+1)-1 {
		t.Error("the signature's text")
	}
}

func TestParams(t *testing.T) {
	for _, src := range []string{"func f(%) { }" + emptyMain, "func main() { f := func(%) { }; f = nil }"} {
		right(t, strings.Replace(src, "%", times(api.MaxArgs, "a# int", ", "), 1))
		wrong(t, strings.Replace(src, "%", times(api.MaxArgs+1, "a# int", ", "), 1))
		wrong(t, strings.Replace(src, "%", "a int, b bool, a string", 1))
		right(t, strings.Replace(src, "%", "f int, main bool, T string", 1))
	}
}

func TestFunctionsLimit(t *testing.T) {
	right(t, times(api.MaxFuncs-1, "func f#() { }", "\n")+emptyMain)
	wrong(t, times(api.MaxFuncs, "func f#() { }", "\n")+emptyMain)
	right(t, inMain(times(api.MaxFuncs-1, "func() { }()", "; ")))
	wrong(t, inMain(times(api.MaxFuncs, "func() { }()", "; ")))
	right(t, "func f() { }\n"+inMain(times(49, "func() { func() { }() }()", "; ")))
	wrong(t, "func f() { }\nfunc g() { }\nfunc h() { }\n"+inMain(times(49, "func() { func() { }() }()", "; ")))
}

func TestVariablesLimit(t *testing.T) {
	most := api.MaxVars
	right(t, times(most, "var g# int", "\n")+emptyMain)
	wrong(t, times(most+1, "var g# int", "\n")+emptyMain)
	right(t, inMain(times(most, "x# := 1", "; ")))
	wrong(t, inMain(times(most+1, "x# := 1", "; ")))
	right(t, inMain(times(most, "var x# int", "; ")))
	wrong(t, inMain(times(most+1, "var x# int", "; ")))
	right(t, inMain(times(most, "{ x := 1 }", "; ")))
	wrong(t, inMain(times(most+1, "{ x := 1 }", "; ")))
	right(t, times(most/8, "func f#(a int, b int, c int, d int, e int, f int, g int, h int) { }", "\n")+emptyMain)
	wrong(t, times(most/8, "func f#(a int, b int, c int, d int, e int, f int, g int, h int) { }", "\n")+"\nfunc main() { x := 1 }")
	recv := "select { case v := <-c: }"
	right(t, "var c chan int\n"+inMain(times(most-1, recv, "; ")))
	wrong(t, "var c chan int\n"+inMain(times(most, recv, "; ")))
}
