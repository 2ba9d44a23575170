package check_test

import (
	"reflect"
	"strings"
	"testing"

	"derrick/api"
	"derrick/check"
)

// right checks a source that is right, and holds its unit against its tree.
func right(t *testing.T, src string) api.Unit {
	t.Helper()
	unit, fault := check.Check(src)
	if fault != (api.Fault{}) {
		t.Errorf("%.300q: %v", src, fault)
		return api.Unit{}
	}
	sound(t, src, unit)
	return unit
}

func refused(t *testing.T, src string, want api.Fault) {
	t.Helper()
	unit, fault := check.Check(src)
	if fault != want || !reflect.DeepEqual(unit, api.Unit{}) {
		t.Errorf("%.300q: %v, a unit of %d variables; not %v", src, fault, len(unit.Vars), want)
	}
}

func wrong(t *testing.T, src string) {
	t.Helper()
	refused(t, src, api.Fault{Stage: api.Types})
}

// asked checks a source that is right just if it is said to be.
func asked(t *testing.T, src string, isRight bool) {
	t.Helper()
	if isRight {
		right(t, src)
	} else {
		wrong(t, src)
	}
}

func inMain(stmts string) string {
	return "func main() { " + stmts + " }"
}

// times writes a text so many times, each # of it as the number of the time.
func times(n int, text, between string) string {
	var parts []string
	for i := range n {
		parts = append(parts, strings.ReplaceAll(text, "#", decimal(i)))
	}
	return strings.Join(parts, between)
}

func decimal(n int) string {
	if n < 10 {
		return string(rune('0' + n))
	}
	return decimal(n/10) + decimal(n%10)
}

func TestLowerFaults(t *testing.T) {
	refused(t, strings.Repeat(" ", api.MaxSource+1), api.Fault{Stage: api.TooBig, At: api.MaxSource})
	refused(t, "func main() { x := 1 + # }", api.Fault{Stage: api.Lexical, At: 23})
	refused(t, "func main() { }\nfunc main() { x := 12a }", api.Fault{Stage: api.Lexical, At: 37})
	refused(t, "func main() { 1 + true }", api.Fault{Stage: api.Syntax, At: 16})
	refused(t, "func main() { return 1; x y }", api.Fault{Stage: api.Syntax, At: 26})
	refused(t, "func", api.Fault{Stage: api.Syntax, At: 4})
	deep := api.MaxNest + 1
	refused(t, "func main() { x := "+strings.Repeat("(", deep)+"1"+strings.Repeat(")", deep)+" }", api.Fault{Stage: api.TooDeep, At: 19 + api.MaxNest - 1})
}

func TestChapterExamples(t *testing.T) {
	unit := right(t, "func main() { x := 1; f := func() { x++ }; f() }")
	if len(unit.Funcs) != 2 {
		t.Errorf("%d functions", len(unit.Funcs))
	}
	want := []api.Var{{Name: "x", Type: "int", Func: 1, Boxed: true}, {Name: "f", Type: "func()", Func: 1}}
	if !reflect.DeepEqual(unit.Vars, want) {
		t.Errorf("%v", unit.Vars)
	}
	wrong(t, "func main() { x := nil }")
	wrong(t, "func f() { }")
	wrong(t, "func main() { return 1 }")
}

func TestWholeExamples(t *testing.T) {
	for _, stmts := range []string{
		`x := 7; print(x*6, " ", x/2, " ", -x % 4)`,
		`s := "ab"; s += s; print(s[1:3], len(s), s[0])`,
		`a := []int{1, 2}; b := append(a, 3); b[0] = 9; print(a[0], b[0], len(b), cap(b))`,
		`f := func(n int) func() int { return func() int { n++; return n } }; g := f(4); g(); print(g())`,
		`c := make(chan int); go func() { for i := 0; i < 3; i++ { c <- i }; close(c) }(); print(<-c, <-c, <-c, <-c)`,
		`defer func() { print("!", recover()) }(); var a []int; print(a[0])`,
		`switch 2 { case 1: print(1); case 2: print(2); fallthrough; default: print(9) }`,
		`c := make(chan int); <-c`,
		`var f func(); f()`,
		`for i := 0; i < 1000; i++ { s := make([]int, 50); s[0] = i }; print("ok")`,
	} {
		right(t, inMain(stmts))
	}
}

// TestAgain: an answer hangs on nothing but the source, and shares nothing with another one.
func TestAgain(t *testing.T) {
	src := "type T struct { a int; }\nvar g *T\nfunc f(a int) { for { b := func(c int) { a = c }; b(1) } }\nfunc main() { g = &T{a: 1}; f(g.a) }"
	first, _ := check.Check(src)
	second, _ := check.Check(src)
	if !reflect.DeepEqual(first, second) {
		t.Fatal("two answers")
	}
	spoil(reflect.ValueOf(&first).Elem())
	third, _ := check.Check(src)
	if !reflect.DeepEqual(second, third) {
		t.Error("an answer is shared")
	}
}

// spoil overwrites the items of all lists.
func spoil(v reflect.Value) {
	switch v.Kind() {
	case reflect.Struct:
		for i := range v.NumField() {
			spoil(v.Field(i))
		}
	case reflect.Slice:
		for i := range v.Len() {
			spoil(v.Index(i))
			v.Index(i).SetZero()
		}
	}
}

// TestListsAreApart: no two lists of an answer share memory, spare room neither.
func TestListsAreApart(t *testing.T) {
	unit := right(t, "type T struct { a int; b bool; c string; }\nfunc f(a int, b int, c int) { x := func(y int, z int) { f(a, b, y) }; x(1, 2); switch a { case 1, 2, 3: f(1, 2, 3) } }\nfunc main() { f(1, 2, 3); f(1, 2, 3); x := []int{1, 2, 3, 4, 5}; x[0]++ }")
	owners := map[uintptr]string{}
	apart(t, reflect.ValueOf(unit), "unit", owners)
}

func apart(t *testing.T, v reflect.Value, path string, owners map[uintptr]string) {
	switch v.Kind() {
	case reflect.Struct:
		for i := range v.NumField() {
			apart(t, v.Field(i), path+"."+v.Type().Field(i).Name, owners)
		}
	case reflect.Slice:
		step := v.Type().Elem().Size()
		for i := range v.Cap() {
			at := v.Pointer() + uintptr(i)*step
			if other, ok := owners[at]; ok {
				t.Errorf("%s and %s share memory", path, other)
			}
			owners[at] = path
		}
		for i := range v.Len() {
			apart(t, v.Index(i), path+"["+decimal(i)+"]", owners)
		}
	}
}
