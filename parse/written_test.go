package parse

import (
	"reflect"
	"strconv"
	"strings"
	"testing"

	"derrick/api"
)

// author writes a source at random and, apart from the parser, the tree that it must have: what it writes it knows the place of.
type author struct {
	remainders
	b    strings.Builder
	left int // how many parts it may still begin
}

var noneWant = api.Node{Kind: api.NNone}

// sp writes what may stand between two tokens of a line.
func (a *author) sp() { a.b.WriteString([]string{" ", " ", "  ", "\t", " \t "}[a.below(5)]) }

// tok writes a token, and tells its place.
func (a *author) tok(text string) int {
	at := a.b.Len()
	a.b.WriteString(text)
	a.sp()
	return at
}

// semi writes a semicolon: one that is written, or a line's end.
func (a *author) semi() {
	if a.below(2) == 0 {
		a.tok(";")
		return
	}
	a.b.WriteString([]string{"\n", " // so\n", "\n\n\t"}[a.below(3)])
}

func (a *author) more() bool {
	a.left--
	return a.left > 0
}

func (a *author) name() string {
	return []string{"x", "y", "main", "T", "f1", "_", "printer", "Int", "if_"}[a.below(9)]
}

func node(kind int, text string, at int, kids ...api.Node) api.Node {
	return api.Node{Kind: kind, Text: text, At: at, Kids: kids}
}

func (a *author) file() api.Node {
	n := node(api.NFile, "", 0)
	for range a.below(4) {
		n.Kids = append(n.Kids, a.decl())
		a.semi()
	}
	return n
}

func (a *author) decl() api.Node {
	name := a.name()
	switch a.below(5) {
	case 0:
		n := node(api.NTypeDecl, name, a.tok("type"))
		a.tok(name)
		a.tok("struct")
		a.tok("{")
		for range a.below(4) {
			n.Kids = append(n.Kids, a.typed(api.NField))
			a.semi()
		}
		a.tok("}")
		return n
	case 1:
		at := a.tok("var")
		a.tok(name)
		return node(api.NVarDecl, name, at, a.typ())
	}
	at := a.tok("func")
	a.tok(name)
	return node(api.NFuncDecl, name, at, a.function()...)
}

func (a *author) typed(kind int) api.Node {
	name := a.name()
	at := a.tok(name)
	return node(kind, name, at, a.typ())
}

func (a *author) function() []api.Node {
	params := node(api.NParams, "", a.tok("("))
	for i := range a.below(4) {
		if i > 0 {
			a.tok(",")
		}
		params.Kids = append(params.Kids, a.typed(api.NParam))
	}
	a.tok(")")
	result := a.maybe(a.typ)
	return []api.Node{params, result, a.block()}
}

func (a *author) maybe(part func() api.Node) api.Node {
	if a.below(2) == 0 {
		return noneWant
	}
	return part()
}

func (a *author) typ() api.Node {
	n := a.below(7)
	if !a.more() {
		n = a.below(4)
	}
	switch n {
	case 0:
		return node(api.TInt, "", a.tok("int"))
	case 1:
		return node(api.TBool, "", a.tok("bool"))
	case 2:
		return node(api.TString, "", a.tok("string"))
	case 3:
		name, at := a.name(), a.tok("*")
		a.tok(name)
		return node(api.TPtr, name, at)
	case 4:
		at := a.tok("[")
		a.tok("]")
		return node(api.TSlice, "", at, a.typ())
	case 5:
		at := a.tok("chan")
		return node(api.TChan, "", at, a.typ())
	}
	n2 := node(api.TFunc, "", a.tok("func"))
	a.tok("(")
	for i := range a.below(3) {
		if i > 0 {
			a.tok(",")
		}
		n2.Kids = append(n2.Kids, a.typ())
	}
	a.tok(")")
	n2.Kids = append(n2.Kids, a.maybe(a.typ))
	return n2
}

func (a *author) block() api.Node {
	at := a.tok("{")
	n := node(api.SBlock, "", at, a.stmts()...)
	a.tok("}")
	return n
}

// stmts writes statements, and empty ones between them.
func (a *author) stmts() []api.Node {
	var list []api.Node
	for a.below(3) > 0 && a.more() {
		for a.below(4) == 0 {
			a.tok(";")
		}
		list = append(list, a.stmt())
		if a.below(3) == 0 {
			return list
		}
		a.semi()
	}
	return list
}

func (a *author) stmt() api.Node {
	switch a.below(16) {
	case 0:
		name, at := a.name(), a.tok("var")
		a.tok(name)
		typ := a.typ()
		value := a.maybe(func() api.Node { a.tok("="); return a.expr(1, false) })
		return node(api.SVar, name, at, typ, value)
	case 1:
		return a.block()
	case 2:
		return a.ifStmt()
	case 3, 4, 5:
		return a.breakable()
	case 6:
		name := a.name()
		at := a.tok(name)
		a.tok(":")
		return node(api.SLabel, name, at, a.breakable())
	case 7:
		kind, word := api.SBreak, "break"
		if a.below(2) == 0 {
			kind, word = api.SContinue, "continue"
		}
		n := node(kind, "", a.tok(word))
		if a.below(2) == 0 {
			n.Text = a.name()
			a.tok(n.Text)
		}
		return n
	case 8:
		return node(api.SFall, "", a.tok("fallthrough"))
	case 9:
		at := a.tok("return")
		return node(api.SReturn, "", at, a.maybe(func() api.Node { return a.expr(1, false) }))
	case 10:
		at := a.tok("go")
		return node(api.SGo, "", at, a.call(false))
	case 11:
		at := a.tok("defer")
		return node(api.SDefer, "", at, a.call(false))
	}
	return a.simple(false)
}

func (a *author) ifStmt() api.Node {
	at := a.tok("if")
	cond := a.expr(1, true)
	then := a.block()
	return node(api.SIf, "", at, cond, then, a.maybe(func() api.Node {
		a.tok("else")
		if a.below(2) == 0 {
			return a.ifStmt()
		}
		return a.block()
	}))
}

func (a *author) breakable() api.Node {
	switch a.below(3) {
	case 0:
		return a.forStmt()
	case 1:
		at := a.tok("switch")
		n := node(api.SSwitch, "", at, a.maybe(func() api.Node { return a.expr(1, true) }))
		a.tok("{")
		for range a.below(4) {
			n.Kids = append(n.Kids, a.clause())
		}
		a.tok("}")
		return n
	}
	n := node(api.SSelect, "", a.tok("select"))
	a.tok("{")
	for range a.below(4) {
		n.Kids = append(n.Kids, a.comm())
	}
	a.tok("}")
	return n
}

func (a *author) forStmt() api.Node {
	at := a.tok("for")
	first, cond, last := noneWant, noneWant, noneWant
	switch a.below(3) {
	case 0:
		cond = a.expr(1, true)
	case 1:
		first = a.maybe(func() api.Node { return a.simple(true) })
		a.tok(";")
		cond = a.maybe(func() api.Node { return a.expr(1, true) })
		a.tok(";")
		last = a.maybe(func() api.Node { return a.simple(true) })
	}
	return node(api.SFor, "", at, first, cond, last, a.block())
}

func (a *author) clause() api.Node {
	if a.below(3) == 0 {
		at := a.tok("default")
		return node(api.SCase, "default", at, a.clauseBlock())
	}
	n := node(api.SCase, "case", a.tok("case"), a.expr(1, false))
	for a.below(3) == 0 {
		a.tok(",")
		n.Kids = append(n.Kids, a.expr(1, false))
	}
	n.Kids = append(n.Kids, a.clauseBlock())
	return n
}

func (a *author) clauseBlock() api.Node {
	at := a.tok(":")
	return node(api.SBlock, "", at, a.stmts()...)
}

func (a *author) comm() api.Node {
	switch a.below(4) {
	case 0:
		at := a.tok("default")
		return node(api.SComm, "default", at, a.clauseBlock())
	case 1:
		at := a.tok("case")
		primary := a.primary(false)
		a.tok("<-")
		value := a.expr(1, false)
		return node(api.SComm, "send", at, primary, value, a.clauseBlock())
	case 2:
		at := a.tok("case")
		a.tok("<-")
		from := a.unary(false)
		return node(api.SComm, "recv", at, from, a.clauseBlock())
	}
	at, name := a.tok("case"), a.name()
	param := node(api.NParam, name, a.tok(name))
	a.tok(":=")
	a.tok("<-")
	from := a.unary(false)
	return node(api.SComm, "recv", at, param, from, a.clauseBlock())
}

func (a *author) simple(head bool) api.Node {
	switch a.below(6) {
	case 0:
		name := a.name()
		at := a.tok(name)
		a.tok(":=")
		return node(api.SDefine, name, at, a.expr(1, head))
	case 1:
		target := a.target(head)
		operator := []string{"=", "+=", "-=", "*="}[a.below(4)]
		at := a.tok(operator)
		return node(api.SAssign, operator, at, target, a.expr(1, head))
	case 2:
		target := a.target(head)
		operator := []string{"++", "--"}[a.below(2)]
		return node(api.SStep, operator, a.tok(operator), target)
	case 3:
		primary := a.primary(head)
		at := a.tok("<-")
		return node(api.SSend, "", at, primary, a.expr(1, head))
	case 4:
		call := a.call(head)
		return node(api.SExpr, "", call.At, call)
	}
	at := a.tok("<-")
	return node(api.SExpr, "", at, node(api.EUnary, "<-", at, a.unary(head)))
}

func (a *author) target(head bool) api.Node {
	switch a.below(3) {
	case 0:
		return a.index(a.primary(head))
	case 1:
		return a.field(a.primary(head))
	}
	name := a.name()
	return node(api.EName, name, a.tok(name))
}

func (a *author) call(head bool) api.Node {
	if a.below(3) == 0 {
		return a.builtin()
	}
	return a.called(a.primary(head))
}

func (a *author) index(of api.Node) api.Node {
	at := a.tok("[")
	n := node(api.EIndex, "", at, of, a.expr(1, false))
	a.tok("]")
	return n
}

func (a *author) field(of api.Node) api.Node {
	at, name := a.tok("."), a.name()
	a.tok(name)
	return node(api.ESel, name, at, of)
}

func (a *author) called(of api.Node) api.Node {
	at := a.tok("(")
	n := node(api.ECall, "", at, of)
	n.Kids = append(n.Kids, a.args()...)
	a.tok(")")
	return n
}

func (a *author) args() []api.Node {
	var list []api.Node
	for i := range a.below(4) {
		if i > 0 {
			a.tok(",")
		}
		list = append(list, a.expr(1, false))
	}
	return list
}

func (a *author) builtin() api.Node {
	word := []string{"append", "cap", "close", "len", "panic", "print", "recover"}[a.below(7)]
	n := node(api.EBuiltin, word, a.tok(word))
	a.tok("(")
	n.Kids = a.args()
	a.tok(")")
	return n
}

// expr writes an expression whose operators outside of parentheses are at least so strong.
func (a *author) expr(least int, head bool) api.Node {
	rows := [][]string{{}, {"||"}, {"&&"}, {"==", "!=", "<", "<=", ">", ">="}, {"+", "-"}, {"*", "/", "%"}}
	s := least + a.below(9)
	if s >= len(rows) || !a.more() {
		return a.unary(head)
	}
	left := a.expr(s, head)
	operator := rows[s][a.below(len(rows[s]))]
	at := a.tok(operator)
	return node(api.EBinary, operator, at, left, a.expr(s+1, head))
}

func (a *author) unary(head bool) api.Node {
	if a.below(5) > 0 || !a.more() {
		return a.primary(head)
	}
	operator := []string{"-", "!", "<-"}[a.below(3)]
	at := a.tok(operator)
	return node(api.EUnary, operator, at, a.unary(head))
}

func (a *author) primary(head bool) api.Node {
	n := a.operand(head)
	for a.below(3) == 0 && a.more() {
		switch a.below(4) {
		case 0:
			n = a.called(n)
		case 1:
			n = a.index(n)
		case 2:
			n = a.field(n)
		default:
			at := a.tok("[")
			part := func() api.Node { return a.expr(1, false) }
			from := a.maybe(part)
			a.tok(":")
			n = node(api.ESlice, "", at, n, from, a.maybe(part))
			a.tok("]")
		}
	}
	return n
}

func (a *author) operand(head bool) api.Node {
	choice := a.below(14)
	if !a.more() {
		choice = a.below(5)
	}
	if head && choice >= 12 {
		choice = 5
	}
	switch choice {
	case 0:
		num := a.below(1000)
		at := a.tok(strconv.Itoa(num))
		return api.Node{Kind: api.EInt, Num: num, At: at}
	case 1:
		text := []string{"", "a", "{", "case", "\n\"\\", ";"}[a.below(6)]
		at := a.tok(`"` + strings.NewReplacer("\n", `\n`, `"`, `\"`, `\`, `\\`).Replace(text) + `"`)
		return node(api.EStr, text, at)
	case 2:
		text := []string{"true", "false"}[a.below(2)]
		return node(api.EBool, text, a.tok(text))
	case 3:
		return node(api.ENil, "", a.tok("nil"))
	case 5, 6:
		a.tok("(")
		n := a.expr(1, false)
		a.tok(")")
		return n
	case 7:
		at := a.tok("func")
		return node(api.EFunc, "", at, a.function()...)
	case 8:
		n := node(api.EBuiltin, "make", a.tok("make"))
		a.tok("(")
		n.Kids = []api.Node{a.typ()}
		if a.below(2) == 0 {
			a.tok(",")
			n.Kids = append(n.Kids, a.expr(1, false))
		}
		a.tok(")")
		return n
	case 9:
		name, at := a.name(), a.tok("new")
		a.tok("(")
		n := node(api.EBuiltin, "new", at, node(api.TPtr, name, a.tok(name)))
		a.tok(")")
		return n
	case 10, 11:
		return a.builtin()
	case 12:
		name := a.name()
		n := node(api.ENew, name, a.tok("&"))
		a.tok(name)
		n.Kids = a.items(func() api.Node {
			field := a.name()
			at := a.tok(field)
			a.tok(":")
			return node(api.NField, field, at, a.expr(1, false))
		})
		return n
	case 13:
		at := a.tok("[")
		a.tok("]")
		n := node(api.EList, "", at, a.typ())
		n.Kids = append(n.Kids, a.items(func() api.Node { return a.expr(1, false) })...)
		return n
	}
	name := a.name()
	return node(api.EName, name, a.tok(name))
}

// items writes items in braces, the last one with or without a comma.
func (a *author) items(item func() api.Node) []api.Node {
	var list []api.Node
	a.tok("{")
	for range a.below(3) {
		if len(list) > 0 {
			a.tok(",")
		}
		list = append(list, item())
	}
	if len(list) > 0 && a.below(2) == 0 {
		a.tok(",")
	}
	a.tok("}")
	return list
}

// evenLists makes empty lists nil, for both say the same.
func evenLists(n api.Node) api.Node {
	var kids []api.Node
	for _, k := range n.Kids {
		kids = append(kids, evenLists(k))
	}
	n.Kids = kids
	return n
}

func countKinds(n api.Node, counts map[int]int) {
	counts[n.Kind]++
	for _, k := range n.Kids {
		countKinds(k, counts)
	}
}

// TestWrittenTrees holds the parser's trees against those that the author knows, places and all.
func TestWrittenTrees(t *testing.T) {
	counts := map[int]int{}
	parsed := 0
	for seed := 1; seed <= 6000; seed++ {
		a := &author{remainders: remainders{state: seed * 7919}, left: 5 + seed%120}
		want := a.file()
		src := a.b.String()
		got, fault := Parse(src)
		if fault.Stage == api.TooBig || fault.Stage == api.TooDeep {
			continue
		}
		parsed++
		if fault != (api.Fault{}) {
			t.Fatalf("%q: %v", src, fault)
		}
		if !reflect.DeepEqual(evenLists(got), evenLists(want)) {
			t.Fatalf("%q:\n%s\nnot\n%s", src, show(got), show(want))
		}
		countKinds(want, counts)
	}
	for kind := api.NFile; kind <= api.EList; kind++ {
		if counts[kind] < 100 {
			t.Errorf("of kind %d there were %d", kind, counts[kind])
		}
	}
	if parsed < 5000 {
		t.Error("parsed", parsed)
	}
}
