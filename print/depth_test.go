package print_test

import (
	"strings"
	"testing"

	"derrick/api"
	"derrick/print"
)

// A function in an expression is at the depth of the statement in which it stands, wherever it stands in that.
func TestFunctionsInExprs(t *testing.T) {
	wantExpr(t, "func(){}", "func() {\n}")
	wantExpr(t, "func(a int,b*T)bool{return a}", "func(a int, b *T) bool {\n\treturn a\n}")
	wantExpr(t, "func(){}()", "func() {\n}()")
	wantExpr(t, "func()func(){return func(){x++}}", "func() func() {\n\treturn func() {\n\t\tx++\n\t}\n}")
	wantExpr(t, "g(func(){x++},1,func(){y++})", "g(func() {\n\tx++\n}, 1, func() {\n\ty++\n})")
	wantExpr(t, "-func()int{return 1}()+2", "((-func() int {\n\treturn 1\n}()) + 2)")
	wantExpr(t, "&T{a:func(){x++}}", "(&T{a: func() {\n\tx++\n}})")
	wantExpr(t, "[]func(){func(){x++},nil}", "([]func(){func() {\n\tx++\n}, nil})")
	wantExpr(t, "a[func()int{x++}():func()int{y++}()]", "a[func() int {\n\tx++\n}():func() int {\n\ty++\n}()]")
}

func TestFunctionsInStmts(t *testing.T) {
	wantStmts(t, "{go func(){x++}()}", "{", "\tgo func() {", "\t\tx++", "\t}()", "}")
	wantStmts(t, "{return func(){x++}}", "{", "\treturn func() {", "\t\tx++", "\t}", "}")
	wantStmts(t, "{c<-func(){x++}}", "{", "\tc <- func() {", "\t\tx++", "\t}", "}")
	wantStmts(t, "{var f func()=func(){x++}}", "{", "\tvar f func() = func() {", "\t\tx++", "\t}", "}")
	wantStmts(t, "{func(){x++}()}", "{", "\tfunc() {", "\t\tx++", "\t}()", "}")
	wantStmts(t, "{a[func()int{x++}()]=func(){y++}}", "{", "\ta[func() int {", "\t\tx++", "\t}()] = func() {", "\t\ty++", "\t}", "}")
}

func TestFunctionsInHeads(t *testing.T) {
	wantStmts(t, "{if func()bool{x++}(){y++}else if func()bool{z++}(){}}",
		"{", "\tif func() bool {", "\t\tx++", "\t}() {", "\t\ty++", "\t} else if func() bool {", "\t\tz++", "\t}() {", "\t}", "}")
	wantStmts(t, "{for f:=func(){x++};func()bool{y++}();func(){z++}(){u++}}",
		"{", "\tfor f := func() {", "\t\tx++", "\t}; func() bool {", "\t\ty++", "\t}(); func() {", "\t\tz++", "\t}() {", "\t\tu++", "\t}", "}")
	wantStmts(t, "{switch func()int{x++}(){case func()int{y++}():z++}}",
		"{", "\tswitch func() int {", "\t\tx++", "\t}() {", "\tcase func() int {", "\t\ty++", "\t}():", "\t\tz++", "\t}", "}")
	wantStmts(t, "{select{case v:=<-func()chan int{x++}():y++;case c<-func()int{z++}():}}",
		"{", "\tselect {", "\tcase v := <-func() chan int {", "\t\tx++", "\t}():", "\t\ty++", "\tcase c <- func() int {", "\t\tz++", "\t}():", "\t}", "}")
	wantStmts(t, "{L:for func()bool{x++}(){}}", "{", "\tL: for func() bool {", "\t\tx++", "\t}() {", "\t}", "}")
}

// What functions and clauses hold goes on from their depth, and behind them all is as ahead of them.
func TestDepthGoesBack(t *testing.T) {
	wantStmts(t, "switch x{case 1:f:=func(){switch y{default:for{go func(){z++}()}}};f()};u++",
		"switch x {", "case 1:", "\tf := func() {", "\t\tswitch y {", "\t\tdefault:", "\t\t\tfor {", "\t\t\t\tgo func() {", "\t\t\t\t\tz++", "\t\t\t\t}()",
		"\t\t\t}", "\t\t}", "\t}", "\tf()", "}", "u++")
	wantFile(t, "func f(){{x++}};type T struct{a int;};func g(){y++}",
		"func f() {\n\t{\n\t\tx++\n\t}\n}\ntype T struct {\n\ta int\n}\nfunc g() {\n\ty++\n}\n")
}

// chain lays a node n times round another by a kid of it.
func chain(n int, inner api.Node, round func(api.Node) api.Node) api.Node {
	for range n {
		inner = round(inner)
	}
	return inner
}

func TestDeepBlocks(t *testing.T) {
	const deep = 3000
	block := func(n api.Node) api.Node { return node(api.SBlock, "", n) }
	got := print.File(inFunc(chain(deep, node(api.SFall, ""), block)))
	var want strings.Builder
	want.WriteString("func f() {\n")
	for depth := 1; depth <= deep; depth++ {
		want.WriteString(strings.Repeat("\t", depth) + "{\n")
	}
	want.WriteString(strings.Repeat("\t", deep+1) + "fallthrough\n")
	for depth := deep; depth >= 0; depth-- {
		want.WriteString(strings.Repeat("\t", depth) + "}\n")
	}
	if got != want.String() {
		t.Error("another text")
	}
}

// TestDeepTrees goes to as many parts in one another as are promised.
func TestDeepTrees(t *testing.T) {
	const deep = 1<<16 - 8
	x := node(api.EName, "x")
	for _, c := range []struct {
		round         func(api.Node) api.Node
		ahead, behind string
	}{
		{func(n api.Node) api.Node { return node(api.EUnary, "-", n) }, "(-", ")"},
		{func(n api.Node) api.Node { return node(api.EBinary, "+", n, x) }, "(", " + x)"},
		{func(n api.Node) api.Node { return node(api.EBinary, "+", x, n) }, "(x + ", ")"},
		{func(n api.Node) api.Node { return node(api.ECall, "", n) }, "", "()"},
		{func(n api.Node) api.Node { return node(api.ECall, "", x, n) }, "x(", ")"},
		{func(n api.Node) api.Node { return node(api.EBuiltin, "len", n) }, "len(", ")"},
		{func(n api.Node) api.Node { return node(api.EIndex, "", x, n) }, "x[", "]"},
		{func(n api.Node) api.Node { return node(api.ESlice, "", n, none, none) }, "", "[:]"},
		{func(n api.Node) api.Node { return node(api.ESel, "a", n) }, "", ".a"},
		{func(n api.Node) api.Node { return node(api.EList, "", node(api.TInt, ""), n) }, "([]int{", "})"},
	} {
		want := strings.Repeat(c.ahead, deep) + "x" + strings.Repeat(c.behind, deep)
		if got := print.Expr(chain(deep, x, c.round)); got != want {
			t.Errorf("%s .. %s: another text", c.ahead, c.behind)
		}
	}
	slice := func(n api.Node) api.Node { return node(api.TSlice, "", n) }
	if got := print.File(node(api.NFile, "", node(api.NVarDecl, "v", chain(deep, node(api.TInt, ""), slice)))); got != "var v "+strings.Repeat("[]", deep)+"int\n" {
		t.Error("[]: another text")
	}
	label := func(n api.Node) api.Node { return node(api.SLabel, "L", n) }
	if got := print.File(inFunc(chain(deep, node(api.SFall, ""), label))); got != "func f() {\n\t"+strings.Repeat("L: ", deep)+"fallthrough\n}\n" {
		t.Error("L: another text")
	}
	orElse := func(n api.Node) api.Node { return node(api.SIf, "", x, node(api.SBlock, ""), n) }
	if got := print.File(inFunc(chain(deep, none, orElse))); got != "func f() {\n\tif x {\n\t}"+strings.Repeat(" else if x {\n\t}", deep-1)+"\n}\n" {
		t.Error("else: another text")
	}
}
