package check_test

import (
	"fmt"
	"math/rand"
	"reflect"
	"slices"
	"strconv"
	"strings"
	"testing"

	"derrick/api"
	"derrick/check"
	"derrick/lex"
	"derrick/print"
)

// author writes right trees by chance, with the types and numbers that the check must find in them.
type author struct {
	*rand.Rand
	unit   api.Unit
	scopes [][]bound
	inside int
	result string
	loops  int // around, in the same function
	left   int // how many parts may still be written
}

// bound is a name of a scope, with its number as a name's Ref has it.
type bound struct {
	name string
	ref  int
}

func (a *author) maybe(n int) bool { return a.Intn(n) == 0 }

// written are the types that the author uses: each with its node.
var written = map[string]api.Node{
	"int": {Kind: api.TInt}, "bool": {Kind: api.TBool}, "string": {Kind: api.TString}, "*T": {Kind: api.TPtr, Text: "T"},
	"[]int": {Kind: api.TSlice, Kids: []api.Node{{Kind: api.TInt}}}, "chan int": {Kind: api.TChan, Kids: []api.Node{{Kind: api.TInt}}},
	"[]*T": {Kind: api.TSlice, Kids: []api.Node{{Kind: api.TPtr, Text: "T"}}}, "chan *T": {Kind: api.TChan, Kids: []api.Node{{Kind: api.TPtr, Text: "T"}}},
	"func()":          {Kind: api.TFunc, Kids: []api.Node{{Kind: api.NNone}}},
	"func(int,*T)*T":  {Kind: api.TFunc, Kids: []api.Node{{Kind: api.TInt}, {Kind: api.TPtr, Text: "T"}, {Kind: api.TPtr, Text: "T"}}},
	"func(string)int": {Kind: api.TFunc, Kids: []api.Node{{Kind: api.TString}, {Kind: api.TInt}}},
}

var typeTexts = []string{"int", "int", "int", "bool", "string", "*T", "[]int", "[]*T", "chan int", "chan *T", "func()", "func(int,*T)*T", "func(string)int"}

func (a *author) typ() string { return typeTexts[a.Intn(len(typeTexts))] }

func expr(kind int, text, typ string, kids ...api.Node) api.Node {
	return api.Node{Kind: kind, Text: text, Type: typ, Kids: kids}
}

func stmt(kind int, text string, kids ...api.Node) api.Node {
	return api.Node{Kind: kind, Text: text, Kids: kids}
}

var nothingThere = api.Node{Kind: api.NNone}

// names are few, so that they are often hidden.
var names = []string{"a", "b", "c", "T", "main", "f", "x"}

// fresh is a name that the innermost scope hasn't.
func (a *author) fresh() string {
	for {
		name := names[a.Intn(len(names))]
		if a.maybe(4) {
			name += decimal(a.Intn(9))
		}
		if !has(a.scopes[len(a.scopes)-1], name) {
			return name
		}
	}
}

func has(scope []bound, name string) bool {
	for _, b := range scope {
		if b.name == name {
			return true
		}
	}
	return false
}

func (a *author) declare(name, typ string) int {
	a.unit.Vars = append(a.unit.Vars, api.Var{Name: name, Type: typ, Func: a.inside})
	last := len(a.scopes) - 1
	a.scopes[last] = append(a.scopes[last], bound{name, len(a.unit.Vars)})
	return len(a.unit.Vars)
}

func (a *author) within(part func()) {
	a.scopes = append(a.scopes, nil)
	part()
	a.scopes = a.scopes[:len(a.scopes)-1]
}

// seen are the names that aren't hidden and stand for something of the type.
func (a *author) seen(typ string, variables bool) []bound {
	var found []bound
	hidden := map[string]bool{}
	for i := len(a.scopes) - 1; i >= 0; i-- {
		for _, b := range a.scopes[i] {
			isFunc := b.ref < 0
			if !hidden[b.name] && b.ref != 0 && !(variables && isFunc) && a.typeOfRef(b.ref) == typ {
				found = append(found, b)
			}
		}
		for _, b := range a.scopes[i] {
			hidden[b.name] = true
		}
	}
	return found
}

func (a *author) typeOfRef(ref int) string {
	if ref < 0 {
		return a.unit.Funcs[-ref-1].Type
	}
	return a.unit.Vars[ref-1].Type
}

// named is a name of the type, if there is one.
func (a *author) named(typ string, variables bool) (api.Node, bool) {
	found := a.seen(typ, variables)
	if len(found) == 0 {
		return api.Node{}, false
	}
	b := found[a.Intn(len(found))]
	if b.ref > 0 {
		v := &a.unit.Vars[b.ref-1]
		v.Boxed = v.Boxed || v.Func != 0 && v.Func != a.inside
	}
	return api.Node{Kind: api.EName, Text: b.name, Type: typ, Ref: b.ref}, true
}

// fit is an expression that fits a type.
func (a *author) fit(typ string) api.Node {
	if typ != "int" && typ != "bool" && typ != "string" && a.maybe(4) {
		return expr(api.ENil, "", "nil")
	}
	return a.expr(typ)
}

func (a *author) expr(typ string) api.Node {
	a.left--
	if a.left < 0 || a.maybe(2) {
		if n, ok := a.named(typ, false); ok {
			return n
		}
	}
	if a.left > 0 && a.maybe(5) {
		return a.taken(typ)
	}
	switch typ {
	case "int":
		return a.number()
	case "bool":
		return a.truth()
	case "string":
		return a.str()
	case "*T":
		return a.object()
	case "[]int", "[]*T":
		return a.list(typ, typ[2:])
	case "chan int", "chan *T":
		return a.channel(typ)
	}
	return a.function(typ)
}

// taken is something of the type out of something greater, if there is such a way.
func (a *author) taken(typ string) api.Node {
	switch typ {
	case "int":
		switch a.Intn(5) {
		case 0:
			return expr(api.EIndex, "", "int", a.expr("[]int"), a.expr("int"))
		case 1:
			return expr(api.EIndex, "", "int", a.expr("string"), a.expr("int"))
		case 2:
			return expr(api.EUnary, "<-", "int", a.expr("chan int"))
		case 3:
			return expr(api.ECall, "", "int", a.expr("func(string)int"), a.expr("string"))
		}
		return expr(api.ESel, "n", "int", a.expr("*T"))
	case "*T":
		switch a.Intn(4) {
		case 0:
			return expr(api.EIndex, "", "*T", a.expr("[]*T"), a.expr("int"))
		case 1:
			return expr(api.EUnary, "<-", "*T", a.expr("chan *T"))
		case 2:
			return expr(api.ECall, "", "*T", a.expr("func(int,*T)*T"), a.expr("int"), a.fit("*T"))
		}
		return expr(api.ESel, "p", "*T", a.expr("*T"))
	case "[]*T":
		return expr(api.ESel, "l", "[]*T", a.expr("*T"))
	}
	return a.expr(typ)
}

func (a *author) oneOf(texts ...string) string { return texts[a.Intn(len(texts))] }

func (a *author) number() api.Node {
	switch a.Intn(5) {
	case 0:
		return expr(api.EUnary, "-", "int", a.expr("int"))
	case 1:
		return expr(api.EBinary, a.oneOf("+", "-", "*", "/", "%"), "int", a.expr("int"), a.expr("int"))
	case 2:
		return expr(api.EBuiltin, "len", "int", a.expr(a.oneOf("string", "[]int", "chan *T")))
	case 3:
		return expr(api.EBuiltin, "cap", "int", a.expr(a.oneOf("[]*T", "chan int")))
	}
	return api.Node{Kind: api.EInt, Type: "int", Num: a.Intn(100)}
}

func (a *author) truth() api.Node {
	switch a.Intn(6) {
	case 0:
		return expr(api.EUnary, "!", "bool", a.expr("bool"))
	case 1:
		typ := a.oneOf("int", "string")
		return expr(api.EBinary, a.oneOf("<", "<=", ">", ">="), "bool", a.expr(typ), a.expr(typ))
	case 2:
		typ := a.oneOf("int", "bool", "string", "*T", "chan int")
		return expr(api.EBinary, a.oneOf("==", "!="), "bool", a.expr(typ), a.fit(typ))
	case 3:
		typ := a.oneOf("*T", "[]int", "chan *T", "func()", "func(string)int")
		return expr(api.EBinary, a.oneOf("==", "!="), "bool", expr(api.ENil, "", "nil"), a.expr(typ))
	case 4:
		return expr(api.EBinary, a.oneOf("&&", "||"), "bool", a.expr("bool"), a.expr("bool"))
	}
	return expr(api.EBool, a.oneOf("true", "false"), "bool")
}

func (a *author) str() api.Node {
	switch a.Intn(5) {
	case 0:
		return expr(api.EBinary, "+", "string", a.expr("string"), a.expr("string"))
	case 1:
		return expr(api.ESlice, "", "string", a.expr("string"), a.bound(), a.bound())
	case 2:
		return expr(api.EBuiltin, "recover", "string")
	}
	return expr(api.EStr, a.oneOf("", "a", "b c"), "string")
}

func (a *author) bound() api.Node {
	if a.maybe(2) {
		return nothingThere
	}
	return a.expr("int")
}

func (a *author) object() api.Node {
	if a.maybe(3) {
		return expr(api.EBuiltin, "new", "*T", written["*T"])
	}
	n := expr(api.ENew, "T", "*T")
	for _, field := range []api.Field{{Name: "l", Type: "[]*T"}, {Name: "n", Type: "int"}, {Name: "p", Type: "*T"}} {
		if a.maybe(3) {
			n.Kids = append(n.Kids, api.Node{Kind: api.NField, Text: field.Name, Kids: []api.Node{a.fit(field.Type)}})
		}
	}
	return n
}

func (a *author) list(typ, item string) api.Node {
	switch a.Intn(4) {
	case 0:
		return expr(api.EBuiltin, "make", typ, written[typ], a.expr("int"))
	case 1:
		n := expr(api.EBuiltin, "append", typ, a.expr(typ))
		for range a.Intn(3) {
			n.Kids = append(n.Kids, a.fit(item))
		}
		return n
	case 2:
		return expr(api.ESlice, "", typ, a.expr(typ), a.bound(), a.bound())
	}
	n := expr(api.EList, "", typ, written[item])
	for range a.Intn(3) {
		n.Kids = append(n.Kids, a.fit(item))
	}
	return n
}

func (a *author) channel(typ string) api.Node {
	n := expr(api.EBuiltin, "make", typ, written[typ])
	if a.maybe(2) {
		n.Kids = append(n.Kids, a.expr("int"))
	}
	return n
}

// function is a function in an expr; its Kids are there for the print alone.
func (a *author) function(typ string) api.Node {
	a.unit.Funcs = append(a.unit.Funcs, api.Func{Type: typ, Outer: a.inside})
	number := len(a.unit.Funcs)
	return api.Node{Kind: api.EFunc, Type: typ, Ref: number, Kids: a.body(number, written[typ].Kids)}
}

// body writes a function's params, result and block.
func (a *author) body(number int, parts []api.Node) []api.Node {
	inside, result, loops := a.inside, a.result, a.loops
	a.inside, a.result, a.loops = number, "", 0
	params := stmt(api.NParams, "")
	block := stmt(api.SBlock, "")
	last := len(parts) - 1
	a.within(func() {
		var numbers []int
		for _, part := range parts[:last] {
			name := a.fresh()
			numbers = append(numbers, a.declare(name, textOf(part)))
			params.Kids = append(params.Kids, stmt(api.NParam, name, part))
		}
		a.unit.Funcs[number-1].Params = numbers
		a.result = textOf(parts[last])
		block.Kids = a.stmts(4)
		if a.result != "" {
			block.Kids = append(block.Kids, a.end(3))
		}
	})
	a.inside, a.result, a.loops = inside, result, loops
	a.unit.Funcs[number-1].Body = block
	return []api.Node{params, parts[last], block}
}

func textOf(n api.Node) string {
	for text, node := range written {
		if reflect.DeepEqual(n, node) {
			return text
		}
	}
	return ""
}

// end is a statement that ends.
func (a *author) end(depth int) api.Node {
	switch a.Intn(6) {
	case 0:
		return stmt(api.SExpr, "", expr(api.EBuiltin, "panic", "", a.expr("string")))
	case 1:
		if depth > 0 {
			return stmt(api.SIf, "", a.expr("bool"), a.endBlock(depth), a.endBlock(depth))
		}
	case 2:
		return stmt(api.SFor, "", nothingThere, nothingThere, nothingThere, stmt(api.SBlock, ""))
	case 3:
		if depth > 0 {
			return stmt(api.SSwitch, "", a.expr("int"), stmt(api.SCase, "case", a.expr("int"), stmt(api.SBlock, "", stmt(api.SFall, ""))), stmt(api.SCase, "default", a.endBlock(depth)))
		}
	}
	return stmt(api.SReturn, "", a.fit(a.result))
}

func (a *author) endBlock(depth int) api.Node {
	block := stmt(api.SBlock, "")
	a.within(func() { block.Kids = append(a.stmts(1), a.end(depth-1)) })
	return block
}

func (a *author) stmts(most int) []api.Node {
	var list []api.Node
	for range a.Intn(most + 1) {
		list = append(list, a.stmt())
	}
	return list
}

func (a *author) block() api.Node {
	block := stmt(api.SBlock, "")
	a.within(func() { block.Kids = a.stmts(3) })
	return block
}

func (a *author) stmt() api.Node {
	a.left--
	if a.left < 0 {
		return stmt(api.SExpr, "", expr(api.EBuiltin, "recover", "string"))
	}
	switch a.Intn(16) {
	case 0:
		return a.block()
	case 1:
		return a.ifStmt()
	case 2:
		return a.loop()
	case 3:
		return a.choice()
	case 4:
		return a.selection()
	case 5:
		if a.loops > 0 {
			return stmt([]int{api.SBreak, api.SContinue}[a.Intn(2)], "")
		}
	case 6:
		return stmt([]int{api.SGo, api.SDefer}[a.Intn(2)], "", a.call())
	case 7:
		return stmt(api.SExpr, "", a.call())
	case 8:
		if a.result == "" {
			return stmt(api.SReturn, "", nothingThere)
		}
		return stmt(api.SReturn, "", a.fit(a.result))
	case 9, 10:
		return a.varStmt()
	}
	return a.simple()
}

func (a *author) varStmt() api.Node {
	typ := a.typ()
	value := nothingThere
	if a.maybe(2) {
		value = a.fit(typ)
	}
	name := a.fresh()
	return api.Node{Kind: api.SVar, Text: name, Ref: a.declare(name, typ), Kids: []api.Node{written[typ], value}}
}

func (a *author) call() api.Node {
	switch a.Intn(3) {
	case 0:
		return expr(api.ECall, "", "int", a.expr("func(string)int"), a.expr("string"))
	case 1:
		return expr(api.ECall, "", "*T", a.expr("func(int,*T)*T"), a.expr("int"), a.fit("*T"))
	}
	return expr(api.ECall, "", "", a.expr("func()"))
}

func (a *author) simple() api.Node {
	switch a.Intn(7) {
	case 0:
		item := a.oneOf("int", "*T")
		return stmt(api.SSend, "", a.expr("chan "+item), a.fit(item))
	case 1:
		return stmt(api.SExpr, "", expr(api.EUnary, "<-", "int", a.expr("chan int")))
	case 2:
		return stmt(api.SExpr, "", expr(api.EBuiltin, "print", "", a.expr("int"), a.expr("bool"), a.expr("string")))
	case 3, 4:
		return a.assign()
	}
	typ := a.typ()
	value := a.expr(typ)
	name := a.fresh()
	return api.Node{Kind: api.SDefine, Text: name, Ref: a.declare(name, typ), Kids: []api.Node{value}}
}

func (a *author) assign() api.Node {
	target, ok := api.Node{}, false
	if !a.maybe(3) {
		target, ok = a.named(a.typ(), true)
	}
	switch {
	case ok:
	case a.maybe(2):
		target = expr(api.ESel, "n", "int", a.expr("*T"))
	default:
		target = expr(api.EIndex, "", "int", a.expr("[]int"), a.expr("int"))
	}
	typ := target.Type
	switch {
	case typ == "int" && a.maybe(2):
		return stmt(api.SStep, a.oneOf("++", "--"), target)
	case typ == "int" && a.maybe(2):
		return stmt(api.SAssign, a.oneOf("+=", "-=", "*="), target, a.expr("int"))
	case typ == "string" && a.maybe(2):
		return stmt(api.SAssign, "+=", target, a.expr("string"))
	}
	return stmt(api.SAssign, "=", target, a.fit(typ))
}

func (a *author) ifStmt() api.Node {
	n := stmt(api.SIf, "", a.expr("bool"), a.block(), nothingThere)
	switch a.Intn(3) {
	case 0:
		n.Kids[2] = a.block()
	case 1:
		n.Kids[2] = a.ifStmt()
	}
	return n
}

// loop writes a for; its head's exprs with & and [ are in parentheses, as the print has them.
func (a *author) loop() api.Node {
	n := stmt(api.SFor, "", nothingThere, nothingThere, nothingThere, nothingThere)
	a.within(func() {
		if a.maybe(2) {
			n.Kids[0] = a.simple()
		}
		if a.maybe(2) {
			n.Kids[1] = a.expr("bool")
		}
		if a.maybe(2) {
			n.Kids[2] = a.simple()
		}
		a.loops++
		n.Kids[3] = a.block()
		a.loops--
	})
	return n
}

func (a *author) choice() api.Node {
	n := stmt(api.SSwitch, "", nothingThere)
	typ := "bool"
	if a.maybe(2) {
		typ = a.oneOf("int", "bool", "string", "*T", "chan int")
		n.Kids[0] = a.expr(typ)
	}
	count := a.Intn(4)
	isDefault := a.Intn(5)
	for i := range count {
		clause := stmt(api.SCase, "case")
		if i == isDefault {
			clause.Text = "default"
		} else {
			for range 1 + a.Intn(2) {
				clause.Kids = append(clause.Kids, a.fit(typ))
			}
		}
		block := a.block()
		if i < count-1 && a.maybe(3) {
			block.Kids = append(block.Kids, stmt(api.SFall, ""))
		}
		clause.Kids = append(clause.Kids, block)
		n.Kids = append(n.Kids, clause)
	}
	return n
}

func (a *author) selection() api.Node {
	n := stmt(api.SSelect, "")
	isDefault := a.Intn(5)
	for i := range a.Intn(4) {
		comm := stmt(api.SComm, "default")
		a.within(func() {
			item := a.oneOf("int", "*T")
			switch {
			case i == isDefault:
			case a.maybe(2):
				comm.Text, comm.Kids = "send", []api.Node{a.expr("chan " + item), a.fit(item)}
			default:
				comm.Text, comm.Kids = "recv", []api.Node{a.expr("chan " + item)}
				if a.maybe(2) {
					name := a.fresh()
					comm.Kids = []api.Node{{Kind: api.NParam, Text: name, Ref: a.declare(name, item)}, comm.Kids[0]}
				}
			}
			comm.Kids = append(comm.Kids, stmt(api.SBlock, "", a.stmts(3)...))
		})
		n.Kids = append(n.Kids, comm)
	}
	return n
}

// file writes a whole file, and what the unit must be.
func (a *author) file() api.Node {
	file := stmt(api.NFile, "")
	fields := stmt(api.NTypeDecl, "T", stmt(api.NField, "n", written["int"]), stmt(api.NField, "p", written["*T"]), stmt(api.NField, "l", written["[]*T"]))
	a.unit.Structs = []api.Struct{{Name: "T", Fields: []api.Field{{Name: "n", Type: "int"}, {Name: "p", Type: "*T"}, {Name: "l", Type: "[]*T"}}}}
	a.scopes = [][]bound{{{"T", 0}, {"main", -1}}}
	file.Kids = append(file.Kids, fields)
	for range a.Intn(4) {
		name, typ := a.fresh(), a.typ()
		a.declare(name, typ)
		file.Kids = append(file.Kids, stmt(api.NVarDecl, name, written[typ]))
	}
	types := []string{"func()"}
	a.unit.Funcs, a.unit.Main = []api.Func{{Name: "main", Type: "func()"}}, 1
	for range a.Intn(4) {
		name, typ := a.fresh(), a.oneOf("func()", "func(int,*T)*T", "func(string)int")
		types = append(types, typ)
		a.unit.Funcs = append(a.unit.Funcs, api.Func{Name: name, Type: typ})
		a.scopes[0] = append(a.scopes[0], bound{name, -len(types)})
	}
	for i, typ := range types {
		file.Kids = append(file.Kids, stmt(api.NFuncDecl, a.unit.Funcs[i].Name, a.body(i+1, written[typ].Kids)...))
	}
	return file
}

// expected is a node without places, and without the Kids that an EFunc has for the print alone.
func expected(n api.Node) api.Node {
	n.At = 0
	if n.Kind == api.EFunc {
		n.Kids = nil
	}
	var kids []api.Node
	for _, kid := range n.Kids {
		kids = append(kids, expected(kid))
	}
	n.Kids = kids
	return n
}

func expectedUnit(unit api.Unit) api.Unit {
	unit = plain(unit)
	for i := range unit.Funcs {
		unit.Funcs[i].Body = expected(unit.Funcs[i].Body)
	}
	return unit
}

// differs is the path to the first difference; empty if there is none.
func differs(got, want reflect.Value) string {
	switch got.Kind() {
	case reflect.Struct:
		for i := range got.NumField() {
			if path := differs(got.Field(i), want.Field(i)); path != "" {
				return "." + got.Type().Field(i).Name + path
			}
		}
		return ""
	case reflect.Slice:
		if got.Len() != want.Len() {
			return fmt.Sprintf(": %d items, not %d", got.Len(), want.Len())
		}
		for i := range got.Len() {
			if path := differs(got.Index(i), want.Index(i)); path != "" {
				return fmt.Sprintf("[%d]%s", i, path)
			}
		}
		return ""
	}
	if reflect.DeepEqual(got.Interface(), want.Interface()) {
		return ""
	}
	return fmt.Sprintf(": %v, not %v", got, want)
}

func TestWrittenByChance(t *testing.T) {
	checked := 0
	for seed := range 1500 {
		a := &author{Rand: rand.New(rand.NewSource(int64(seed))), left: 20 + seed%200}
		src := print.File(a.file())
		if len(src) > api.MaxSource || len(a.unit.Vars) > api.MaxVars || len(a.unit.Funcs) > api.MaxFuncs {
			continue
		}
		unit, fault := check.Check(src)
		if fault.Stage == api.TooDeep {
			continue
		}
		checked++
		if fault != (api.Fault{}) {
			t.Fatalf("seed %d: %v\n%s", seed, fault, src)
		}
		sound(t, src, unit)
		got, want := expectedUnit(unit), expectedUnit(a.unit)
		if path := differs(reflect.ValueOf(got), reflect.ValueOf(want)); path != "" {
			t.Fatalf("seed %d: unit%s\n%s", seed, path, src)
		}
	}
	if checked < 1000 {
		t.Errorf("only %d were small enough", checked)
	}
}

// classes are tokens that may stand in each other's place, as the grammar goes.
var classes = [][]string{
	{"a", "b", "c", "T", "main", "f", "x", "n", "p", "1", "nil", "true", "recover()", "f()", "([]int{})", "make(chan int)", `"s"`},
	{"+", "-", "*", "/", "%", "==", "!=", "<", "<=", ">", ">=", "&&", "||"}, {"=", "+=", "-=", "*="}, {"++", "--", "+= 1"},
	{"break", "continue", "fallthrough", "return", "panic(\"\")"}, {"int", "bool", "string", "*T", "[]int", "chan int", "func()"}, {"go", "defer", ";"}, {"case 1", "default"},
}

// swapped is what stands in a token's place: one of its class, if it has one.
func (a *author) swapped(text string, isOperand bool) string {
	for i, class := range classes {
		if i == 0 && isOperand || slices.Contains(class, text) {
			return class[a.Intn(len(class))]
		}
	}
	return ""
}

// changed is a source of these tokens, of which one is another or lacks.
func (a *author) changed(tokens []api.Token) string {
	var parts []string
	at := a.Intn(len(tokens))
	for i, token := range tokens[:len(tokens)-1] {
		text := token.Text
		if token.Kind == api.Str {
			text = strconv.Quote(text)
		}
		if i == at {
			text = a.swapped(text, token.Kind <= api.Str)
		}
		parts = append(parts, text)
	}
	return strings.Join(parts, " ")
}

// TestChangedByChance changes right sources: what is still right has a sound unit, and all else is refused.
func TestChangedByChance(t *testing.T) {
	stages := map[int]int{}
	for seed := range 400 {
		a := &author{Rand: rand.New(rand.NewSource(int64(seed))), left: 10 + seed%60}
		tokens, fault := lex.Scan(print.File(a.file()))
		if fault != (api.Fault{}) {
			continue
		}
		for range 20 {
			src := a.changed(tokens)
			unit, fault := check.Check(src)
			stages[fault.Stage]++
			if fault == (api.Fault{}) {
				sound(t, src, unit)
			} else {
				refused(t, src, fault)
			}
		}
	}
	if stages[0] < 100 || stages[api.Types] < 1000 {
		t.Errorf("%v", stages)
	}
}
