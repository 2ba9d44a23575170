package print_test

import (
	"slices"
	"strings"
	"testing"

	"derrick/api"
	"derrick/print"
)

var none = api.Node{Kind: api.NNone}

func node(kind int, text string, kids ...api.Node) api.Node {
	return api.Node{Kind: kind, Text: text, Kids: kids}
}

// inFunc is a file of one function f with these statements.
func inFunc(stmts ...api.Node) api.Node {
	block := node(api.SBlock, "", stmts...)
	return node(api.NFile, "", node(api.NFuncDecl, "f", node(api.NParams, ""), none, block))
}

// stmtText is a statement's text at the depth 1.
func stmtText(stmt api.Node) string {
	text := print.File(inFunc(stmt))
	text, ahead := strings.CutPrefix(text, "func f() {\n\t")
	text, behind := strings.CutSuffix(text, "\n}\n")
	if !ahead || !behind {
		return "not a line of a function: " + text
	}
	return text
}

func typeText(n api.Node) string {
	return strings.TrimPrefix(print.Expr(node(api.EBuiltin, "make", n)), "make")
}

var (
	typeKinds = []int{api.TInt, api.TBool, api.TString, api.TPtr, api.TSlice, api.TChan, api.TFunc}
	stmtKinds = []int{api.SBlock, api.SDefine, api.SVar, api.SAssign, api.SStep, api.SIf, api.SFor, api.SSwitch, api.SSelect, api.SBreak, api.SContinue, api.SFall, api.SReturn, api.SGo, api.SDefer, api.SSend, api.SExpr, api.SLabel}
	exprKinds = []int{api.EInt, api.EStr, api.EBool, api.ENil, api.EName, api.EUnary, api.EBinary, api.ECall, api.EBuiltin, api.EIndex, api.ESlice, api.ESel, api.EFunc, api.ENew, api.EList}
)

// A place is where a part of certain kinds stands; text writes what it is in with the part there.
type place struct {
	name  string
	kinds []int
	text  func(part api.Node) string
	want  string // the text with a ? for the part
}

func exprPlaces() []place {
	x, y := node(api.EName, "x"), node(api.EName, "y")
	in := func(kind int, text string, ahead, behind []api.Node) func(api.Node) string {
		return func(part api.Node) string {
			return print.Expr(node(kind, text, slices.Concat(ahead, []api.Node{part}, behind)...))
		}
	}
	one, two := []api.Node{x}, []api.Node{x, y}
	return []place{
		{"Expr", exprKinds, print.Expr, "?"},
		{"unary", exprKinds, in(api.EUnary, "!", nil, nil), "(!?)"},
		{"left", exprKinds, in(api.EBinary, "+", nil, one), "(? + x)"},
		{"right", exprKinds, in(api.EBinary, "+", one, nil), "(x + ?)"},
		{"called", exprKinds, in(api.ECall, "", nil, one), "?(x)"},
		{"argument", exprKinds, in(api.ECall, "", two, one), "x(y, ?, x)"},
		{"builtin's argument", exprKinds, in(api.EBuiltin, "print", one, one), "print(x, ?, x)"},
		{"made", typeKinds, in(api.EBuiltin, "make", nil, one), "make(?, x)"},
		{"size", exprKinds, in(api.EBuiltin, "make", []api.Node{{Kind: api.TInt}}, nil), "make(int, ?)"},
		{"new", []int{api.TPtr}, in(api.EBuiltin, "new", nil, nil), "new(?)"},
		{"indexed", exprKinds, in(api.EIndex, "", nil, one), "?[x]"},
		{"index", exprKinds, in(api.EIndex, "", one, nil), "x[?]"},
		{"sliced", exprKinds, in(api.ESlice, "", nil, two), "?[x:y]"},
		{"from", append([]int{api.NNone}, exprKinds...), in(api.ESlice, "", one, one), "x[?:x]"},
		{"to", append([]int{api.NNone}, exprKinds...), in(api.ESlice, "", two, nil), "x[y:?]"},
		{"field of", exprKinds, in(api.ESel, "a", nil, nil), "?.a"},
		{"init", []int{api.NField}, in(api.ENew, "T", nil, nil), "(&T{?})"},
		{"items", typeKinds, in(api.EList, "", nil, one), "([]?{x})"},
		{"item", exprKinds, in(api.EList, "", []api.Node{{Kind: api.TInt}, x}, one), "([]int{x, ?, x})"},
		{"params", []int{api.NParams}, in(api.EFunc, "", nil, []api.Node{none, {Kind: api.SBlock}}), "func(?) {\n}"},
		{"result", append([]int{api.NNone}, typeKinds...), in(api.EFunc, "", []api.Node{{Kind: api.NParams}}, []api.Node{{Kind: api.SBlock}}), "func() ? {\n}"},
		{"function's block", []int{api.SBlock}, in(api.EFunc, "", []api.Node{{Kind: api.NParams}, none}, nil), "func() ?"},
		{"field's expr", exprKinds, func(part api.Node) string {
			return print.Expr(node(api.ENew, "T", node(api.NField, "a", part)))
		}, "(&T{a: ?})"},
	}
}

func typePlaces() []place {
	in := func(kind int, text string, ahead, behind []api.Node) func(api.Node) string {
		return func(part api.Node) string {
			return typeText(node(kind, text, slices.Concat(ahead, []api.Node{part}, behind)...))
		}
	}
	file := func(part api.Node) string { return print.File(node(api.NFile, "", part)) }
	return []place{
		{"slice of", typeKinds, in(api.TSlice, "", nil, nil), "([]?)"},
		{"chan of", typeKinds, in(api.TChan, "", nil, nil), "(chan ?)"},
		{"type of a param", typeKinds, in(api.TFunc, "", []api.Node{{Kind: api.TInt}}, []api.Node{none}), "(func(int, ?))"},
		{"type of a result", append([]int{api.NNone}, typeKinds...), in(api.TFunc, "", []api.Node{{Kind: api.TInt}}, nil), "(func(int) ?)"},
		{"File", []int{api.NFile}, print.File, "?"},
		{"decl", []int{api.NTypeDecl, api.NVarDecl, api.NFuncDecl}, file, "?\n"},
		{"type of a var", typeKinds, func(part api.Node) string { return file(node(api.NVarDecl, "v", part)) }, "var v ?\n"},
		{"field", []int{api.NField}, func(part api.Node) string { return file(node(api.NTypeDecl, "T", part)) }, "type T struct {\n\t?\n}\n"},
		{"type of a field", typeKinds, func(part api.Node) string { return file(node(api.NTypeDecl, "T", node(api.NField, "a", part))) }, "type T struct {\n\ta ?\n}\n"},
		{"param", []int{api.NParam}, func(part api.Node) string {
			return file(node(api.NFuncDecl, "f", node(api.NParams, "", part, node(api.NParam, "b", node(api.TInt, ""))), none, node(api.SBlock, "")))
		}, "func f(?, b int) {\n}\n"},
	}
}

func stmtPlaces() []place {
	x, y, block := node(api.EName, "x"), node(api.EName, "y"), node(api.SBlock, "")
	step := node(api.SStep, "++", x)
	in := func(kind int, text string, ahead, behind []api.Node) func(api.Node) string {
		return func(part api.Node) string {
			return stmtText(node(kind, text, slices.Concat(ahead, []api.Node{part}, behind)...))
		}
	}
	one, two := []api.Node{x}, []api.Node{x, y}
	orNone := []int{api.NNone}
	return []place{
		{"stmt", stmtKinds, stmtText, "?"},
		{"defined", exprKinds, in(api.SDefine, "v", nil, nil), "v := ?"},
		{"type of a var stmt", typeKinds, in(api.SVar, "v", nil, one), "var v ? = x"},
		{"value of a var stmt", append(orNone, exprKinds...), in(api.SVar, "v", []api.Node{{Kind: api.TInt}}, nil), "var v int = ?"},
		{"target", exprKinds, in(api.SAssign, "+=", nil, one), "? += x"},
		{"assigned", exprKinds, in(api.SAssign, "=", one, nil), "x = ?"},
		{"stepped", exprKinds, in(api.SStep, "--", nil, nil), "?--"},
		{"condition", exprKinds, in(api.SIf, "", nil, []api.Node{block, none}), "if ? {\n\t}"},
		{"then", []int{api.SBlock}, in(api.SIf, "", one, []api.Node{none}), "if x ?"},
		{"else", append(orNone, stmtKinds...), in(api.SIf, "", []api.Node{x, block}, nil), "if x {\n\t} else ?"},
		{"first", append(orNone, stmtKinds...), in(api.SFor, "", nil, []api.Node{x, step, block}), "for ?; x; x++ {\n\t}"},
		{"condition of a for", append(orNone, exprKinds...), in(api.SFor, "", []api.Node{step}, []api.Node{step, block}), "for x++; ?; x++ {\n\t}"},
		{"condition alone", append(orNone, exprKinds...), in(api.SFor, "", []api.Node{none}, []api.Node{none, block}), "for ? {\n\t}"},
		{"last", append(orNone, stmtKinds...), in(api.SFor, "", []api.Node{step, x}, []api.Node{block}), "for x++; x; ? {\n\t}"},
		{"block of a for", []int{api.SBlock}, in(api.SFor, "", []api.Node{none, none, none}, nil), "for ?"},
		{"switched", append(orNone, exprKinds...), in(api.SSwitch, "", nil, nil), "switch ? {\n\t}"},
		{"returned", append(orNone, exprKinds...), in(api.SReturn, "", nil, nil), "return ?"},
		{"go", exprKinds, in(api.SGo, "", nil, nil), "go ?"},
		{"defer", exprKinds, in(api.SDefer, "", nil, nil), "defer ?"},
		{"sent to", exprKinds, in(api.SSend, "", nil, one), "? <- x"},
		{"sent", exprKinds, in(api.SSend, "", one, nil), "x <- ?"},
		{"expr stmt", exprKinds, in(api.SExpr, "", nil, nil), "?"},
		{"received", exprKinds, func(part api.Node) string { return stmtText(node(api.SExpr, "", node(api.EUnary, "<-", part))) }, "<-?"},
		{"labelled", stmtKinds, in(api.SLabel, "L", nil, nil), "L: ?"},
		{"within a block", stmtKinds, in(api.SBlock, "", []api.Node{step}, []api.Node{step}), "{\n\t\tx++\n\t\t?\n\t\tx++\n\t}"},
		{"clause", []int{api.SCase}, in(api.SSwitch, "", one, nil), "switch x {\n?\t}"},
		{"comm", []int{api.SComm}, in(api.SSelect, "", nil, nil), "select {\n?\t}"},
		{"case's expr", exprKinds, func(part api.Node) string {
			return stmtText(node(api.SSwitch, "", none, node(api.SCase, "case", append(two, part, block)...)))
		}, "switch {\n\tcase x, y, ?:\n\t}"},
		{"case's stmt", stmtKinds, func(part api.Node) string {
			return stmtText(node(api.SSwitch, "", none, node(api.SCase, "default", node(api.SBlock, "", part))))
		}, "switch {\n\tdefault:\n\t\t?\n\t}"},
		{"case's block", []int{api.SBlock}, func(part api.Node) string {
			return stmtText(node(api.SSwitch, "", none, node(api.SCase, "case", x, part)))
		}, "switch {\n\tcase x:\n?\t}"},
	}
}

func commPlaces() []place {
	x, block := node(api.EName, "x"), node(api.SBlock, "")
	in := func(text string, ahead, behind []api.Node) func(api.Node) string {
		return func(part api.Node) string {
			return stmtText(node(api.SSelect, "", node(api.SComm, text, slices.Concat(ahead, []api.Node{part}, behind)...)))
		}
	}
	named := []api.Node{{Kind: api.NParam, Text: "v"}}
	return []place{
		{"received", append([]int{api.NParam}, exprKinds...), in("recv", nil, []api.Node{block}), "select {\n\tcase <-?:\n\t}"},
		{"received with a name", exprKinds, in("recv", named, []api.Node{block}), "select {\n\tcase v := <-?:\n\t}"},
		{"sent to", exprKinds, in("send", nil, []api.Node{x, block}), "select {\n\tcase ? <- x:\n\t}"},
		{"sent", exprKinds, in("send", []api.Node{x}, []api.Node{block}), "select {\n\tcase x <- ?:\n\t}"},
		{"block of a recv", []int{api.SBlock}, in("recv", []api.Node{x}, nil), "select {\n\tcase <-x:\n?\t}"},
		{"block of a send", []int{api.SBlock}, in("send", []api.Node{x, x}, nil), "select {\n\tcase x <- x:\n?\t}"},
		{"block of a default", []int{api.SBlock}, in("default", nil, nil), "select {\n\tdefault:\n?\t}"},
	}
}

// TestKindsThatDoNotBelong lays every kind into every place.
func TestKindsThatDoNotBelong(t *testing.T) {
	kinds := []int{-1 << 63, -1, 1 << 20, 1<<63 - 1}
	for kind := range api.EList + 20 {
		kinds = append(kinds, kind)
	}
	for _, p := range slices.Concat(exprPlaces(), typePlaces(), stmtPlaces(), commPlaces()) {
		for _, kind := range kinds {
			part := node(kind, "default", node(api.EName, "x"), node(api.TInt, ""), node(api.SBlock, ""))
			got, belongs := p.text(part), slices.Contains(p.kinds, kind)
			if (got == p.want) == belongs {
				t.Errorf("%s, kind %d: %q", p.name, kind, got)
			}
		}
	}
}

func TestExprsWithoutKids(t *testing.T) {
	x, block := node(api.EName, "x"), node(api.SBlock, "")
	for _, c := range []struct {
		n    api.Node
		want string
	}{
		{api.Node{}, "?"},
		{none, "?"},
		{node(api.EUnary, "-"), "(-?)"},
		{node(api.EBinary, "+"), "(? + ?)"},
		{node(api.EBinary, "+", x), "(x + ?)"},
		{node(api.ECall, ""), "?()"},
		{node(api.EBuiltin, "make"), "make(?)"},
		{node(api.EBuiltin, "new"), "new(?)"},
		{node(api.EBuiltin, "len"), "len()"},
		{node(api.EIndex, ""), "?[?]"},
		{node(api.EIndex, "", x), "x[?]"},
		{node(api.ESlice, ""), "?[?:?]"},
		{node(api.ESlice, "", x), "x[?:?]"},
		{node(api.ESlice, "", x, none), "x[:?]"},
		{node(api.ESel, "a"), "?.a"},
		{node(api.EFunc, ""), "func(?) ? ?"},
		{node(api.EFunc, "", node(api.NParams, "")), "func() ? ?"},
		{node(api.EFunc, "", node(api.NParams, ""), none), "func() ?"},
		{node(api.EFunc, "", node(api.NParams, "", node(api.NParam, "a")), none, block), "func(a ?) {\n}"},
		{node(api.ENew, "T"), "(&T{})"},
		{node(api.ENew, "T", node(api.NField, "a")), "(&T{a: ?})"},
		{node(api.EList, ""), "([]?{})"},
		{node(api.EList, "", node(api.TSlice, "")), "([][]?{})"},
		{node(api.EList, "", node(api.TChan, "")), "([]chan ?{})"},
		{node(api.EList, "", node(api.TFunc, "")), "([]func() ?{})"},
	} {
		if got := print.Expr(c.n); got != c.want {
			t.Errorf("%q, not %q", got, c.want)
		}
	}
}

func TestStmtsWithoutKids(t *testing.T) {
	x, block, step := node(api.EName, "x"), node(api.SBlock, ""), node(api.SStep, "++", node(api.EName, "x"))
	for _, c := range []struct {
		n    api.Node
		want string
	}{
		{node(api.SDefine, "v"), "v := ?"},
		{node(api.SVar, "v"), "var v ? = ?"},
		{node(api.SVar, "v", node(api.TInt, "")), "var v int = ?"},
		{node(api.SAssign, "="), "? = ?"},
		{node(api.SAssign, "-=", x), "x -= ?"},
		{node(api.SStep, "++"), "?++"},
		{node(api.SIf, ""), "if ? ? else ?"},
		{node(api.SIf, "", x), "if x ? else ?"},
		{node(api.SIf, "", x, block), "if x {\n\t} else ?"},
		{node(api.SFor, ""), "for ?; ?; ? ?"},
		{node(api.SFor, "", none), "for ; ?; ? ?"},
		{node(api.SFor, "", step, none), "for x++; ; ? ?"},
		{node(api.SFor, "", none, x, none), "for x ?"},
		{node(api.SFor, "", none, none, none), "for ?"},
		{node(api.SSwitch, ""), "switch ? {\n\t}"},
		{node(api.SSelect, ""), "select {\n\t}"},
		{node(api.SReturn, ""), "return ?"},
		{node(api.SGo, ""), "go ?"},
		{node(api.SDefer, ""), "defer ?"},
		{node(api.SSend, ""), "? <- ?"},
		{node(api.SSend, "", x), "x <- ?"},
		{node(api.SExpr, ""), "?"},
		{node(api.SExpr, "", node(api.EUnary, "<-")), "<-?"},
		{node(api.SLabel, "L"), "L: ?"},
		{node(api.SCase, "default", block), "?"},
		{node(api.SComm, "default", block), "?"},
		{node(api.SSwitch, "", x, node(api.SCase, "case")), "switch x {\n\tcase ?:\n?\t}"},
		{node(api.SSwitch, "", x, node(api.SCase, "case", block)), "switch x {\n\tcase ?:\n\t}"},
		{node(api.SSwitch, "", x, node(api.SCase, "default")), "switch x {\n\tdefault:\n?\t}"},
		{node(api.SSwitch, "", x, node(api.SCase, "", x, block)), "switch x {\n?\t}"},
		{node(api.SSelect, "", node(api.SComm, "recv")), "select {\n\tcase <-?:\n?\t}"},
		{node(api.SSelect, "", node(api.SComm, "recv", node(api.NParam, "v"))), "select {\n\tcase v := <-?:\n?\t}"},
		{node(api.SSelect, "", node(api.SComm, "send")), "select {\n\tcase ? <- ?:\n?\t}"},
		{node(api.SSelect, "", node(api.SComm, "default")), "select {\n\tdefault:\n?\t}"},
		{node(api.SSelect, "", node(api.SComm, "", x, block)), "select {\n?\t}"},
	} {
		if got := stmtText(c.n); got != c.want {
			t.Errorf("%q, not %q", got, c.want)
		}
	}
}

func TestDeclsWithoutKids(t *testing.T) {
	for _, c := range []struct {
		n    api.Node
		want string
	}{
		{api.Node{}, "?"},
		{node(api.NFile, "", api.Node{}), "?\n"},
		{node(api.NFile, "", node(api.NVarDecl, "v")), "var v ?\n"},
		{node(api.NFile, "", node(api.NTypeDecl, "T")), "type T struct {\n}\n"},
		{node(api.NFile, "", node(api.NTypeDecl, "T", node(api.NField, "a"))), "type T struct {\n\ta ?\n}\n"},
		{node(api.NFile, "", node(api.NFuncDecl, "f")), "func f(?) ? ?\n"},
		{node(api.NFile, "", node(api.NFile, "")), "?\n"},
	} {
		if got := print.File(c.n); got != c.want {
			t.Errorf("%q, not %q", got, c.want)
		}
	}
}

// Kids behind those that a kind must have leave no trace.
func TestMoreKids(t *testing.T) {
	x, block := node(api.EName, "x"), node(api.SBlock, "")
	for want, n := range map[string]api.Node{
		"x":           node(api.EName, "x", x),
		"(-x)":        node(api.EUnary, "-", x, x),
		"(x + x)":     node(api.EBinary, "+", x, x, x),
		"x[x]":        node(api.EIndex, "", x, x, x),
		"x[:]":        node(api.ESlice, "", x, none, none, x),
		"x.a":         node(api.ESel, "a", x, x),
		"new(T)":      node(api.EBuiltin, "new", node(api.TPtr, "T"), x),
		"make(*T)":    node(api.EBuiltin, "make", node(api.TPtr, "T")),
		"func() {\n}": node(api.EFunc, "", node(api.NParams, ""), none, block, x),
	} {
		if got := print.Expr(n); got != want {
			t.Errorf("%q, not %q", got, want)
		}
	}
}

// Only a receive has no parentheses where it is a statement.
func TestOtherExprsAsStmts(t *testing.T) {
	x := node(api.EName, "x")
	for want, n := range map[string]api.Node{
		"(-x)":     node(api.EUnary, "-", x),
		"(x < x)":  node(api.EBinary, "<", x, x),
		"(x <- x)": node(api.EBinary, "<-", x, x),
		"x":        x,
	} {
		if got := stmtText(node(api.SExpr, "", n)); got != want {
			t.Errorf("%q, not %q", got, want)
		}
	}
}

// TestAllSmallTrees is that none panics, of any kind with none, one or two kids of any kind, and that the tree stays as it was.
func TestAllSmallTrees(t *testing.T) {
	kinds := api.EList + 2
	for _, text := range []string{"", "case", "default", "recv", "send", "make", "new", "<-"} {
		for kind := range kinds {
			printAll(node(kind, text))
			for first := range kinds {
				printAll(node(kind, text, node(first, text)))
				for second := range kinds {
					n := node(kind, text, node(first, text), node(second, text))
					printAll(n)
					if !sameTree(n, node(kind, text, node(first, text), node(second, text))) {
						t.Fatal("changed", kind, first, second)
					}
				}
			}
		}
	}
}

func printAll(n api.Node) {
	print.Expr(n)
	print.File(n)
	print.File(inFunc(n))
}
