package lower_test

import (
	"fmt"
	"math"
	"math/rand"
	"reflect"
	"slices"
	"strings"
	"testing"

	"derrick/api"
	"derrick/code"
	"derrick/lower"
)

func TestChapterExample(t *testing.T) {
	u, p := sound(t, "func main() { x := 1; f := func() { x++ }; f() }")
	if got := lower.Escapes(u); !slices.Equal(got, []int{1}) {
		t.Errorf("Escapes: %v", got)
	}
	if got := lower.Captures(u, 2); !slices.Equal(got, []int{1}) {
		t.Errorf("Captures: %v", got)
	}
	if f := p.Funcs[1]; f.Params != 0 || f.Captures != 1 || !f.Refs[0] {
		t.Errorf("%+v", f)
	}
}

func TestEscapesAndCaptures(t *testing.T) {
	for _, row := range []struct {
		src      string
		escapes  []int
		captures [][]int // of each function
	}{
		{"func main() { }", nil, [][]int{nil}},
		{"func main() { x := 1; y := x; y++ }", nil, [][]int{nil}},
		{"var g int\nfunc main() { f := func() { g++ }; f() }", nil, [][]int{nil, nil}},
		{"func main() { f := func() { x := 1; x++ }; f() }", nil, [][]int{nil, nil}},
		{"func f(a int, b int) { func() { b++ }() }\nfunc main() { }", []int{2}, [][]int{nil, nil, {2}}},
		{"func main() { x := 1; func() { func() { x++ }() }() }", []int{1}, [][]int{nil, {1}, {1}}},
		{"func main() { x := 1; func() { y := 2; func() { x = y }() }() }", []int{1, 2}, [][]int{nil, {1}, {1, 2}}},
		{"func main() { x := 1; y := 2; func() { y++; x++; y++ }(); func() { y++ }() }", []int{1, 2}, [][]int{nil, {1, 2}, {2}}},
		{"func main() { x := 1; x = func() int { x := x; return x }() }", []int{1}, [][]int{nil, {1}}},
		{"func main() { x := 1; func(x int) { x++; func() { x-- }() }(x) }", []int{2}, [][]int{nil, nil, {2}}},
		{"func main() { for i := 0; i < 1; i++ { k := i; func() { k++ }() } }", []int{2}, [][]int{nil, {2}}},
		{"func main() { for i := 0; i < 1; i++ { func() { i++ }() } }", []int{1}, [][]int{nil, {1}}},
		{"func main() { switch { case true: k := 1; func() { k++ }() } }", []int{1}, [][]int{nil, {1}}},
		{"func main() { c := make(chan int); select { case k := <-c: func() { k++ }() } }", []int{2}, [][]int{nil, {2}}},
		{"func main() { return; k := 1; func() { k++ }() }", []int{1}, [][]int{nil, {1}}},
		{"func main() { var f func(); f = func() { f() } }", []int{1}, [][]int{nil, {1}}},
		{"func main() { x := 1; func() { func() { func() { x++ }() }(); func() { y := 1; func() { y++ }() }() }() }", []int{1, 2}, [][]int{nil, {1}, {1}, {1}, nil, {2}}},
	} {
		u, _ := sound(t, row.src)
		if got := lower.Escapes(u); !slices.Equal(got, row.escapes) {
			t.Errorf("%s: Escapes %v, not %v", row.src, got, row.escapes)
		}
		for k, want := range row.captures {
			if got := lower.Captures(u, k+1); !slices.Equal(got, want) {
				t.Errorf("%s: Captures of %d: %v, not %v", row.src, k+1, got, want)
			}
		}
	}
}

func TestCapturesOfNoFunction(t *testing.T) {
	u := unitOf(t, "func main() { x := 1; func() { x++ }() }")
	for _, fn := range []int{0, -1, 3, 100, math.MaxInt, math.MinInt} {
		if got := lower.Captures(u, fn); len(got) != 0 {
			t.Errorf("%d: %v", fn, got)
		}
	}
}

// isAround tells whether a function stands around another.
func isAround(u api.Unit, outer, inner int) bool {
	for k := u.Funcs[inner-1].Outer; k != 0; k = u.Funcs[k-1].Outer {
		if k == outer {
			return true
		}
	}
	return false
}

// usedIn tells of each function which variables its own tree names.
func usedIn(u api.Unit) []map[int]bool {
	var all []map[int]bool
	for _, f := range u.Funcs {
		used := map[int]bool{}
		each(f.Body, func(n api.Node) {
			if n.Kind == api.EName && n.Ref > 0 {
				used[n.Ref] = true
			}
		})
		all = append(all, used)
	}
	return all
}

// TestCapturesByChance asks each variable and each pair of functions by itself, as the chapter's words go.
func TestCapturesByChance(t *testing.T) {
	captures := 0
	for seed := range 400 {
		src := written(rand.New(rand.NewSource(int64(seed))), 10+seed%60)
		if src == "" {
			continue
		}
		u := unitOf(t, src)
		used := usedIn(u)
		escapes := map[int]bool{}
		for fn := 1; fn <= len(u.Funcs); fn++ {
			var want []int
			for v := 1; v <= len(u.Vars); v++ {
				owner := u.Vars[v-1].Func
				if owner == 0 || !isAround(u, owner, fn) {
					continue
				}
				isUsed := used[fn-1][v]
				for within := 1; within <= len(u.Funcs); within++ {
					isUsed = isUsed || isAround(u, fn, within) && used[within-1][v]
				}
				if isUsed {
					want = append(want, v)
					escapes[v] = true
				}
			}
			captures += len(want)
			if got := lower.Captures(u, fn); !slices.Equal(got, want) {
				t.Fatalf("%s\nfunction %d: %v, not %v", src, fn, got, want)
			}
		}
		got := lower.Escapes(u)
		if len(got) != len(escapes) || !slices.IsSorted(got) || slices.ContainsFunc(got, func(v int) bool { return !escapes[v] }) {
			t.Fatalf("%s\n%v, not %v", src, got, escapes)
		}
	}
	if captures < 1000 {
		t.Errorf("only %d captures", captures)
	}
}

// TestAnswersAreNew writes into what was answered: what is answered next doesn't show it.
func TestAnswersAreNew(t *testing.T) {
	src := told + `func main() { x := 1; y := "a"; func() { x++; y += "b"; func() { print(x, y) }() }(); select { case k := <-c(nil): print(k); default: } }`
	u := unitOf(t, src)
	spoil := func(list []int) {
		list = list[:cap(list)]
		for k := range list {
			list[k] = -7
		}
	}
	spoil(lower.Escapes(u))
	for fn := range len(u.Funcs) {
		spoil(lower.Captures(u, fn+1))
	}
	p := lower.Program(u)
	for _, f := range p.Funcs {
		for k := range f.Code {
			spoil(f.Code[k].List)
			f.Code[k].Op = -7
		}
		for r := range f.Refs {
			f.Refs[r] = !f.Refs[r]
		}
	}
	for _, s := range p.Structs {
		for k := range s {
			s[k] = !s[k]
		}
	}
	if !reflect.DeepEqual(u, unitOf(t, src)) {
		t.Error("the unit was changed")
	}
	_, again := sound(t, src)
	if !reflect.DeepEqual(lower.Program(u), again) || !slices.Equal(lower.Escapes(u), lower.Escapes(unitOf(t, src))) {
		t.Error("what is answered again is something else")
	}
}

func countOf(f code.Func, op int) int {
	n := 0
	for _, i := range f.Code {
		if i.Op == op {
			n++
		}
	}
	return n
}

// TestUnreached asks for what can't be reached as for all else.
func TestUnreached(t *testing.T) {
	_, p := sound(t, `func f() int {
	return 1
	x := 2
	g := func() int { x++; return x }
	for { go g() }
	for i := 0; i < 3; i++ { var y string; defer func() { y += "never" }() }
	return g()
}
func main() { f() }`)
	f := p.Funcs[0]
	if countOf(f, code.MakeBox) != 2 || countOf(f, code.Closure) != 2 || countOf(f, code.Yield) != 4 || countOf(f, code.Go) != 1 {
		t.Errorf("%+v", f)
	}
	if !slices.Equal(p.Texts, []string{"never"}) {
		t.Errorf("%q", p.Texts)
	}
}

// TestBeginnings asks that boxed params, and nothing else, are made ahead of a function's safepoint.
func TestBeginnings(t *testing.T) {
	for _, x := range []struct {
		f    string
		want []int
	}{
		{"func f() { }", []int{code.Yield}},
		{"func f(a int) { print(a) }", []int{code.Yield}},
		{"func f(a int) { func() { print(a) }() }", []int{code.MakeBox, code.Yield}},
		{"func f(a string) { func() { print(a) }() }", []int{code.MakeBox, code.Yield}},
		{"func f(a int, b []int, c bool) { func() { print(a, c) }() }", []int{code.MakeBox, code.MakeBox, code.Yield}},
		{"func f(a int, b []int, c bool) { func() { func() { print(len(b)) }() }(); for { } }", []int{code.MakeBox, code.Yield}},
		{"func f(a int) { b := a; func() { print(b) }() }", []int{code.Yield}},
		{"func f(a int) { for { a := 1; func() { print(a) }() } }", []int{code.Yield}},
	} {
		_, p := sound(t, x.f+"\nfunc main() { }")
		var ops []int
		for _, i := range p.Funcs[0].Code[:len(x.want)] {
			ops = append(ops, i.Op)
		}
		if !slices.Equal(ops, x.want) {
			t.Errorf("%s: begins with %v, not %v", x.f, ops, x.want)
		}
	}
}

// TestEnds asks that a Return stands behind the last statement, whatever that is.
func TestEnds(t *testing.T) {
	for _, body := range []string{"", "return", "for { }", "x := 1; x++", "panic(\"a\")", "if true { return }", "select { }", "switch { default: return }", "a: for { continue a }"} {
		_, p := sound(t, "func main() { "+body+" }")
		if f := p.Funcs[0]; f.Code[len(f.Code)-1].Op != code.Return || f.Code[len(f.Code)-1].A != -1 {
			t.Errorf("%s: %+v", body, f.Code)
		}
	}
	for _, result := range []string{"int", "bool", "string", "*T", "[]int", "chan int", "func()"} {
		sound(t, "type T struct { }\nfunc f() "+result+" { for { } }\nfunc g() "+result+" { panic(\"\") }\nfunc h() "+result+" { var x "+result+"; return x }\nfunc main() { }")
	}
}

func TestTexts(t *testing.T) {
	_, p := sound(t, `func f() string { return "b" }
func main() { x := ""; print(x, "a", "", "a", "b" + "", f() + "c"); switch x { case "": print("d") } }`)
	slices.Sort(p.Texts)
	if got := strings.TrimPrefix(strings.Join(p.Texts, ","), ","); got != "a,b,c,d" {
		t.Errorf("%q", p.Texts)
	}
	if _, p := sound(t, "var g string\nfunc main() { }"); len(p.Texts) != 0 || !slices.Equal(p.Globals, []bool{true}) {
		t.Errorf("%+v", p)
	}
}

func TestGlobalsAndStructs(t *testing.T) {
	_, p := sound(t, `var a int
type A struct { x int; y string; z bool; p *B; q []int; r chan int; s func(); }
var b string
func main() { b = "x"; c = &B{ }; d[0] = a; print(e) }
var c *B
type B struct { }
var d []int
var e bool
type C struct { b bool; a *A; }
var f chan bool
var g func(int) int`)
	if !slices.Equal(p.Globals, []bool{false, true, true, true, false, true, true}) {
		t.Errorf("%v", p.Globals)
	}
	if !reflect.DeepEqual(p.Structs, [][]bool{{false, true, false, true, true, true, true}, nil, {false, true}}) {
		t.Errorf("%v", p.Structs)
	}
}

func main(parts ...string) string { return "func main() {\n" + strings.Join(parts, "") + "\n}\n" }

// TestGreatSources asks for the chapter's bounds, and the meaning, where sources are as great as they may be.
func TestGreatSources(t *testing.T) {
	for name, src := range map[string]string{
		"sum":       main("print(1", strings.Repeat("+1", 3900), ")"),
		"join":      main("s := \"a\"; print(s", strings.Repeat("+s", 3900), ")"),
		"minus":     main("print(1", strings.Repeat("- -1", 1900), ")"),
		"nots":      main("print(", strings.Repeat("!", 7900), "true)"),
		"ands":      main("x := true; print(x", strings.Repeat("&&x", 2500), ")"),
		"ors":       main("x := false; print(x", strings.Repeat("||x&&!x", 1000), ")"),
		"elses":     main("x := 0; if x == 1 { print(1) }", strings.Repeat(" else if x == 2 { x := 1; x++ }", 190), " else { print(x) }"),
		"cases":     main("switch 7 {", strings.Repeat("case 1, 2, 3: print(1); fallthrough\n", 200), "default: print(2) }"),
		"bools":     main("x := 1; switch {", strings.Repeat("case x > 1: print(1); break\n", 200), "case x == 1: print(2) }"),
		"comms":     main("c := make(chan int); select {", strings.Repeat("case x := <-c: print(x); case c <- 1: print(2); case <-c: print(3)\n", 100), "default: print(4) }"),
		"blocks":    main(strings.Repeat("{", 38), "print(1)", strings.Repeat("}", 38)),
		"loops":     main(strings.Repeat("for i := 0; i < 1; i++ {", 38), "print(i)", strings.Repeat("}", 38)),
		"parts":     main("p := new(T); p.p = p; p", strings.Repeat(".p", 2000), ".p = nil; print(p.p == nil)") + "type T struct { p *T; }",
		"calls":     main("x := 1; print(", strings.Repeat("f(x, ", 38), "x", strings.Repeat(")", 38), ")") + "func f(a int, b int) int { return a + b }",
		"functions": main("x := 0; ", strings.Repeat("func() { x++; ", 38), "print(x)", strings.Repeat("}()", 38)),
		"steps":     main("x := 0; ", strings.Repeat("x++;", 1900), "print(x)"),
		"boxed":     main("x := 0; ", strings.Repeat("x++;", 1800), "print(x); func() { x++ }()"),
		"params":    "func f(a int, b int, c int, d int, e int, f int, g int, h bool) func() int { return func() int { return a+b+c+d+e+f+g } }\n" + main("print(f(1, 2, 3, 4, 5, 6, 7, true)())"),
		"all boxed": "func f(a int, b int, c int, d int, e int, f int, g int, h int) func() int { return func() int { return a+b+c+d+e+f+g+h } }\n" + main("print(f(1, 2, 3, 4, 5, 6, 7, 8)())"),
		"unused":    "func f(a int, b int, c int, d int, e int, f int, g int, h int) { }\n" + main("f(1, 2, 3, 4, 5, 6, 7, 8)"),
		"inits":     main("x := 1; print((&T{", inits(), "}).p)") + fields(),
		"items":     main("x := 1; print(([]int{", strings.Repeat("x, ", 16), "})[15])"),
	} {
		t.Run(name, func(t *testing.T) {
			if got := agree(t, src, nil).outcome; got.State != api.Exited || got.Output == "" && name != "unused" {
				t.Errorf("%+v", got)
			}
		})
	}
}

func inits() string {
	var parts []string
	for k := range api.MaxFields {
		parts = append(parts, fmt.Sprintf("%c: x", 'a'+k))
	}
	return strings.Join(parts, ", ")
}

func fields() string {
	var parts []string
	for k := range api.MaxFields {
		parts = append(parts, fmt.Sprintf("%c int", 'a'+k))
	}
	return "type T struct { " + strings.Join(parts, "; ") + "; }"
}

// TestManyVariables has as many variables, and as many functions, as there may be.
func TestManyVariables(t *testing.T) {
	var defines, uses []string
	for k := range api.MaxVars {
		defines = append(defines, fmt.Sprintf("v%d := %d;", k, k))
		uses = append(uses, fmt.Sprintf("+v%d", k))
	}
	sum := "print(0" + strings.Join(uses, "") + ")"
	for _, src := range []string{
		main(strings.Join(defines, ""), sum),
		main(strings.Join(defines, ""), "func() { ", sum, " }()"),
		main(strings.Join(defines, ""), "func() { func() { ", sum, " }() }()"),
	} {
		if got := agree(t, src, nil).outcome; got.Output != "19900" {
			t.Errorf("%+v", got)
		}
	}
	funcs := main("x := 0; ", strings.Repeat("func() { x++ }();", api.MaxFuncs-1), "print(x)")
	if got := agree(t, funcs, nil).outcome; got.Output != "99" {
		t.Errorf("%+v", got)
	}
}
