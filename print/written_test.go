package print_test

import (
	"strconv"
	"strings"
	"testing"

	"derrick/api"
	"derrick/parse"
	"derrick/print"
)

// written is a tree that a source has, and the text that it must have: the author makes both at once, apart from the printer.
type written struct {
	tree api.Node
	text string
}

// author makes trees at random.
type author struct {
	state uint64
	left  int // how many parts it may still begin
}

func (a *author) below(n int) int {
	a.state = a.state*6364136223846793005 + 1442695040888963407
	return int(a.state>>33) % n
}

func (a *author) more() bool {
	a.left--
	return a.left > 0
}

func (a *author) one(words string) string {
	list := strings.Fields(words)
	return list[a.below(len(list))]
}

func (a *author) name() string {
	return a.one("x y main T f1 _ printer Int if_")
}

func tabs(depth int) string {
	return strings.Repeat("\t", depth)
}

// some makes a few parts, and the texts of them all with a text between.
func (a *author) some(least, most int, between string, make func() written) ([]api.Node, string) {
	var trees []api.Node
	var texts []string
	for range least + a.below(most-least+1) {
		w := make()
		trees = append(trees, w.tree)
		texts = append(texts, w.text)
	}
	return trees, strings.Join(texts, between)
}

// maybe makes a part and a text ahead of it, or none.
func (a *author) maybe(ahead string, make func() written) written {
	if a.below(2) == 0 {
		return written{none, ""}
	}
	w := make()
	return written{w.tree, ahead + w.text}
}

func (a *author) file() written {
	trees, text := a.some(0, 3, "", func() written {
		w := a.decl()
		return written{w.tree, w.text + "\n"}
	})
	return written{node(api.NFile, "", trees...), text}
}

func (a *author) decl() written {
	name := a.name()
	switch a.below(5) {
	case 0:
		fields, text := a.some(0, 3, "", func() written {
			w := a.typed(api.NField)
			return written{w.tree, "\t" + w.text + "\n"}
		})
		return written{node(api.NTypeDecl, name, fields...), "type " + name + " struct {\n" + text + "}"}
	case 1:
		w := a.typed(api.NVarDecl)
		return written{w.tree, "var " + w.text}
	}
	kids, text := a.function(0)
	return written{node(api.NFuncDecl, name, kids...), "func " + name + text}
}

func (a *author) typed(kind int) written {
	name, w := a.name(), a.typ()
	return written{node(kind, name, w.tree), name + " " + w.text}
}

func (a *author) function(depth int) ([]api.Node, string) {
	params, text := a.some(0, 3, ", ", func() written { return a.typed(api.NParam) })
	result := a.maybe(" ", a.typ)
	block := a.block(depth)
	return []api.Node{node(api.NParams, "", params...), result.tree, block.tree}, "(" + text + ")" + result.text + " " + block.text
}

func (a *author) typ() written {
	choice := a.below(7)
	if !a.more() {
		choice = a.below(4)
	}
	switch choice {
	case 0:
		return written{node(api.TInt, ""), "int"}
	case 1:
		return written{node(api.TBool, ""), "bool"}
	case 2:
		return written{node(api.TString, ""), "string"}
	case 3:
		name := a.name()
		return written{node(api.TPtr, name), "*" + name}
	case 4:
		w := a.typ()
		return written{node(api.TSlice, "", w.tree), "[]" + w.text}
	case 5:
		w := a.typ()
		return written{node(api.TChan, "", w.tree), "chan " + w.text}
	}
	types, text := a.some(0, 2, ", ", a.typ)
	result := a.maybe(" ", a.typ)
	return written{node(api.TFunc, "", append(types, result.tree)...), "func(" + text + ")" + result.text}
}

// stmts makes statements at a depth, a line each.
func (a *author) stmts(depth int) ([]api.Node, string) {
	if !a.more() {
		return nil, ""
	}
	return a.some(0, 3, "", func() written {
		w := a.stmt(depth)
		return written{w.tree, tabs(depth) + w.text + "\n"}
	})
}

func (a *author) block(depth int) written {
	stmts, text := a.stmts(depth + 1)
	return written{node(api.SBlock, "", stmts...), "{\n" + text + tabs(depth) + "}"}
}

func (a *author) stmt(depth int) written {
	expr := func() written { return a.expr(depth) }
	switch a.below(16) {
	case 0:
		w, value := a.typed(api.SVar), a.maybe(" = ", expr)
		return written{node(api.SVar, w.tree.Text, w.tree.Kids[0], value.tree), "var " + w.text + value.text}
	case 1:
		return a.block(depth)
	case 2:
		return a.ifStmt(depth)
	case 3, 4, 5:
		return a.breakable(depth)
	case 6:
		label, w := a.name(), a.breakable(depth)
		return written{node(api.SLabel, label, w.tree), label + ": " + w.text}
	case 7:
		label := a.name()
		return a.oneOf(written{node(api.SBreak, ""), "break"}, written{node(api.SBreak, label), "break " + label},
			written{node(api.SContinue, ""), "continue"}, written{node(api.SContinue, label), "continue " + label})
	case 8:
		return written{node(api.SFall, ""), "fallthrough"}
	case 9:
		value := a.maybe(" ", expr)
		return written{node(api.SReturn, "", value.tree), "return" + value.text}
	case 10:
		call := a.call(depth)
		return a.oneOf(written{node(api.SGo, "", call.tree), "go " + call.text}, written{node(api.SDefer, "", call.tree), "defer " + call.text})
	}
	return a.simple(depth)
}

func (a *author) oneOf(choices ...written) written {
	return choices[a.below(len(choices))]
}

func (a *author) ifStmt(depth int) written {
	condition, then := a.expr(depth), a.block(depth)
	other := a.maybe(" else ", func() written {
		if a.below(2) == 0 {
			return a.ifStmt(depth)
		}
		return a.block(depth)
	})
	return written{node(api.SIf, "", condition.tree, then.tree, other.tree), "if " + condition.text + " " + then.text + other.text}
}

func (a *author) breakable(depth int) written {
	switch a.below(3) {
	case 0:
		return a.forStmt(depth)
	case 1:
		tag := a.maybe(" ", func() written { return a.expr(depth) })
		clauses, text := a.some(0, 3, "", func() written { return a.clause(depth) })
		return written{node(api.SSwitch, "", append([]api.Node{tag.tree}, clauses...)...), "switch" + tag.text + " {\n" + text + tabs(depth) + "}"}
	}
	comms, text := a.some(0, 3, "", func() written { return a.comm(depth) })
	return written{node(api.SSelect, "", comms...), "select {\n" + text + tabs(depth) + "}"}
}

func (a *author) forStmt(depth int) written {
	first := a.maybe("", func() written { return a.simple(depth) })
	condition := a.maybe("", func() written { return a.expr(depth) })
	last := a.maybe("", func() written { return a.simple(depth) })
	block := a.block(depth)
	head := first.text + "; " + condition.text + "; " + last.text + " "
	switch {
	case first.text+condition.text+last.text == "":
		head = ""
	case first.text+last.text == "":
		head = condition.text + " "
	case last.text == "":
		head = first.text + "; " + condition.text + "; "
	}
	return written{node(api.SFor, "", first.tree, condition.tree, last.tree, block.tree), "for " + head + block.text}
}

// inClause makes the statements of a clause whose kids and text ahead of the colon these are.
func (a *author) inClause(depth, kind int, form string, kids []api.Node, head string) written {
	stmts, text := a.stmts(depth + 1)
	kids = append(kids, node(api.SBlock, "", stmts...))
	return written{node(kind, form, kids...), tabs(depth) + head + ":\n" + text}
}

func (a *author) clause(depth int) written {
	if a.below(3) == 0 {
		return a.inClause(depth, api.SCase, "default", nil, "default")
	}
	exprs, text := a.some(1, 3, ", ", func() written { return a.expr(depth) })
	return a.inClause(depth, api.SCase, "case", exprs, "case "+text)
}

func (a *author) comm(depth int) written {
	left, right := a.expr(depth), a.expr(depth)
	switch a.below(4) {
	case 0:
		return a.inClause(depth, api.SComm, "default", nil, "default")
	case 1:
		return a.inClause(depth, api.SComm, "send", []api.Node{left.tree, right.tree}, "case "+left.text+" <- "+right.text)
	case 2:
		return a.inClause(depth, api.SComm, "recv", []api.Node{left.tree}, "case <-"+left.text)
	}
	name := a.name()
	return a.inClause(depth, api.SComm, "recv", []api.Node{node(api.NParam, name), left.tree}, "case "+name+" := <-"+left.text)
}

func (a *author) simple(depth int) written {
	expr := a.expr(depth)
	switch a.below(6) {
	case 0:
		name := a.name()
		return written{node(api.SDefine, name, expr.tree), name + " := " + expr.text}
	case 1:
		target, operator := a.target(depth), a.one("= += -= *=")
		return written{node(api.SAssign, operator, target.tree, expr.tree), target.text + " " + operator + " " + expr.text}
	case 2:
		target, operator := a.target(depth), a.one("++ --")
		return written{node(api.SStep, operator, target.tree), target.text + operator}
	case 3:
		to := a.expr(depth)
		return written{node(api.SSend, "", to.tree, expr.tree), to.text + " <- " + expr.text}
	case 4:
		call := a.call(depth)
		return written{node(api.SExpr, "", call.tree), call.text}
	}
	return written{node(api.SExpr, "", node(api.EUnary, "<-", expr.tree)), "<-" + expr.text}
}

func (a *author) target(depth int) written {
	switch a.below(3) {
	case 0:
		return a.index(depth)
	case 1:
		return a.field(depth)
	}
	name := a.name()
	return written{node(api.EName, name), name}
}

func (a *author) index(depth int) written {
	of, at := a.expr(depth), a.expr(depth)
	return written{node(api.EIndex, "", of.tree, at.tree), of.text + "[" + at.text + "]"}
}

func (a *author) field(depth int) written {
	of, name := a.expr(depth), a.name()
	return written{node(api.ESel, name, of.tree), of.text + "." + name}
}

func (a *author) call(depth int) written {
	args, text := a.some(0, 3, ", ", func() written { return a.expr(depth) })
	if a.below(2) == 0 {
		word := a.one("append cap close len panic print recover")
		return written{node(api.EBuiltin, word, args...), word + "(" + text + ")"}
	}
	of := a.expr(depth)
	return written{node(api.ECall, "", append([]api.Node{of.tree}, args...)...), of.text + "(" + text + ")"}
}

func (a *author) expr(depth int) written {
	if a.below(2) == 0 || !a.more() {
		return a.operand()
	}
	expr := func() written { return a.expr(depth) }
	switch a.below(10) {
	case 0:
		operator, w := a.one("- ! <-"), expr()
		return written{node(api.EUnary, operator, w.tree), "(" + operator + w.text + ")"}
	case 1:
		left, operator, right := expr(), a.one("|| && == != < <= > >= + - * / %"), expr()
		return written{node(api.EBinary, operator, left.tree, right.tree), "(" + left.text + " " + operator + " " + right.text + ")"}
	case 2:
		return a.call(depth)
	case 3:
		return a.index(depth)
	case 4:
		of, first, second := expr(), a.maybe("", expr), a.maybe("", expr)
		return written{node(api.ESlice, "", of.tree, first.tree, second.tree), of.text + "[" + first.text + ":" + second.text + "]"}
	case 5:
		return a.field(depth)
	case 6:
		kids, text := a.function(depth)
		return written{node(api.EFunc, "", kids...), "func" + text}
	case 7:
		name := a.name()
		inits, text := a.some(0, 3, ", ", func() written {
			field, w := a.name(), expr()
			return written{node(api.NField, field, w.tree), field + ": " + w.text}
		})
		return written{node(api.ENew, name, inits...), "(&" + name + "{" + text + "})"}
	case 8:
		of := a.typ()
		items, text := a.some(0, 3, ", ", expr)
		return written{node(api.EList, "", append([]api.Node{of.tree}, items...)...), "([]" + of.text + "{" + text + "})"}
	}
	return a.making(depth)
}

func (a *author) making(depth int) written {
	name, of, size := a.name(), a.typ(), a.expr(depth)
	return a.oneOf(written{node(api.EBuiltin, "new", node(api.TPtr, name)), "new(" + name + ")"},
		written{node(api.EBuiltin, "make", of.tree), "make(" + of.text + ")"},
		written{node(api.EBuiltin, "make", of.tree, size.tree), "make(" + of.text + ", " + size.text + ")"})
}

func (a *author) operand() written {
	switch a.below(6) {
	case 0:
		num := a.below(1000)
		return written{api.Node{Kind: api.EInt, Num: num}, strconv.Itoa(num)}
	case 1:
		return a.oneOf(written{node(api.EStr, ""), `""`}, written{node(api.EStr, "a {;"), `"a {;"`}, written{node(api.EStr, "\n\"\\\n"), `"\n\"\\\n"`})
	case 2:
		text := a.one("true false")
		return written{node(api.EBool, text), text}
	case 3:
		return written{node(api.ENil, ""), "nil"}
	}
	name := a.name()
	return written{node(api.EName, name), name}
}

func countKinds(n api.Node, counts map[int]int) {
	counts[n.Kind]++
	for _, kid := range n.Kids {
		countKinds(kid, counts)
	}
}

// TestWrittenFiles holds texts against those that the author knows, and the trees of the texts against the author's.
func TestWrittenFiles(t *testing.T) {
	counts, parsed := map[int]int{}, 0
	for seed := range 6000 {
		a := &author{state: uint64(seed), left: 5 + seed%120}
		w := a.file()
		if got := print.File(w.tree); got != w.text {
			t.Fatalf("\n%s\nnot\n%s", got, w.text)
		}
		again, fault := parse.Parse(w.text)
		if fault.Stage == api.TooBig || fault.Stage == api.TooDeep {
			continue
		}
		if fault != (api.Fault{}) || !sameTree(parse.Bare(again), w.tree) {
			t.Fatalf("parsed again (%v) another tree:\n%s", fault, w.text)
		}
		parsed++
		countKinds(w.tree, counts)
	}
	for kind := api.NFile; kind <= api.EList; kind++ {
		if counts[kind] < 100 {
			t.Errorf("of kind %d there were %d", kind, counts[kind])
		}
	}
	if parsed < 5000 {
		t.Error("parsed", parsed)
	}
}

func TestWrittenExprs(t *testing.T) {
	for seed := range 6000 {
		a := &author{state: uint64(seed), left: 5 + seed%60}
		w := a.expr(0)
		if got := print.Expr(w.tree); got != w.text {
			t.Fatalf("\n%s\nnot\n%s", got, w.text)
		}
	}
}

// roomy is a tree whose lists have spare room, with a mark in it.
func roomy(n api.Node) api.Node {
	kids := make([]api.Node, 0, len(n.Kids)+2)
	for _, kid := range n.Kids {
		kids = append(kids, roomy(kid))
	}
	for i := len(kids); i < cap(kids); i++ {
		kids[:cap(kids)][i] = api.Node{Kind: 77, Text: "spare"}
	}
	n.Kids = kids
	return n
}

func isRoomy(n api.Node) bool {
	for _, spare := range n.Kids[len(n.Kids):cap(n.Kids)] {
		if spare.Kind != 77 || spare.Text != "spare" || spare.Kids != nil {
			return false
		}
	}
	for _, kid := range n.Kids {
		if !isRoomy(kid) {
			return false
		}
	}
	return true
}

// TestTreesStay is that what is handed in stays as it was, its spare room too, and that a second call answers the same.
func TestTreesStay(t *testing.T) {
	for seed := range 500 {
		w := (&author{state: uint64(seed), left: 60}).file()
		tree := roomy(w.tree)
		first := print.File(tree)
		if !sameTree(tree, w.tree) || !isRoomy(tree) {
			t.Fatalf("changed: %s", w.text)
		}
		if first != w.text || print.File(tree) != first {
			t.Fatalf("another text: %s", w.text)
		}
	}
	for seed := range 500 {
		w := (&author{state: uint64(seed), left: 60}).expr(0)
		tree := roomy(w.tree)
		if print.Expr(tree) != w.text || !sameTree(tree, w.tree) || !isRoomy(tree) {
			t.Fatalf("changed: %s", w.text)
		}
	}
}
