package lower_test

import (
	"math/rand"
	"strconv"
	"strings"

	"derrick/api"
	"derrick/check"
)

// author writes right sources by chance, most of which come to an end.
type author struct {
	*rand.Rand
	text   *strings.Builder
	scopes [][]variable
	names  int
	left   int    // how many parts may still be written
	result string // of the function that is written
	around []around
}

type variable struct {
	name, typ string
	counts    bool // a loop hangs on it: it isn't written
}

// around is a statement that a break, or a continue, may be meant for.
type around struct {
	label string
	loops bool
}

// declared stands ahead of each file: a struct, variables, and functions that tell when they are called.
const declared = `type T struct {
	n int
	s string
	p *T
	l []*T
	f func(int) int
}
type E struct {
}
var gn int
var gs string
var gp *T
var gl []int
func tn(n int) int { print("<", n, ">"); return n }
func tb(b bool) bool { print("<", b, ">"); return b }
func ts(s string) string { gs += "t"; print("<", s, ">"); return s }
func tp(p *T) *T { gp = p; print("<", p == nil, ">"); return p }
func tl(l []int) []int { gl = l; print("<", len(l), ">"); return l }
func up() int { gn++; return gn }
func ip(p *T) *T { if p == nil { return &T{n: 3, s: "xyz", l: ([]*T{gp, new(T)}), f: tn} }; return p }
func il(l []int) []int { if len(l) < 2 { return ([]int{4, 5, 6}) }; return l }
func is(s string) string { if len(s) < 2 { return s + "is" }; return s }
`

// types are those that the author uses, as they are written; int is the one that all else comes to.
var typeTexts = []string{"int", "int", "bool", "string", "*T", "[]int", "[]string", "[]*T", "chan int", "chan *T", "func()", "func(int) int", "func(string, *T) string"}

func (a *author) maybe(n int) bool { return a.Intn(n) == 0 }

func (a *author) oneOf(texts ...string) string { return texts[a.Intn(len(texts))] }

func (a *author) typ() string { return typeTexts[a.Intn(len(typeTexts))] }

func (a *author) put(parts ...string) {
	for _, part := range parts {
		a.text.WriteString(part)
	}
}

func (a *author) fresh() string {
	a.names++
	return "v" + strconv.Itoa(a.names)
}

func (a *author) declare(name, typ string, counts bool) {
	last := len(a.scopes) - 1
	a.scopes[last] = append(a.scopes[last], variable{name, typ, counts})
}

func (a *author) enter() { a.scopes = append(a.scopes, nil) }

func (a *author) leave() { a.scopes = a.scopes[:len(a.scopes)-1] }

// named is the name of a variable of the type, if there is one.
func (a *author) named(typ string, written bool) string {
	var found []string
	for _, scope := range a.scopes {
		for _, v := range scope {
			if v.typ == typ && !(written && v.counts) {
				found = append(found, v.name)
			}
		}
	}
	if len(found) == 0 {
		return ""
	}
	return a.oneOf(found...)
}

// within writes part into a text of its own.
func (a *author) within(part func()) string {
	outer := a.text
	a.text = &strings.Builder{}
	part()
	text := a.text.String()
	a.text = outer
	return text
}

func (a *author) fit(typ string) string {
	if !strings.Contains(" int bool string ", typ) && a.maybe(6) {
		return "nil"
	}
	return a.expr(typ)
}

func (a *author) expr(typ string) string {
	a.left--
	if a.maybe(2) || a.left < 0 {
		if name := a.named(typ, false); name != "" {
			return name
		}
	}
	if a.left < 0 {
		return plainest(typ)
	}
	switch typ {
	case "int":
		return a.number()
	case "bool":
		return a.truth()
	case "string":
		return a.str()
	case "*T":
		return a.pointer()
	case "[]int", "[]string", "[]*T":
		return a.list(typ, typ[2:])
	case "chan int", "chan *T":
		return "make(" + typ + ", " + strconv.Itoa(a.Intn(3)) + ")"
	}
	return a.function(typ)
}

// plainest is an expression of a type that has no parts worth speaking of.
func plainest(typ string) string {
	switch {
	case typ == "int":
		return "1"
	case typ == "bool":
		return "true"
	case typ == "string":
		return `"z"`
	case typ == "*T":
		return "new(T)"
	case strings.HasPrefix(typ, "[]"):
		return "(" + typ + "{})"
	case strings.HasPrefix(typ, "chan "):
		return "make(" + typ + ", 1)"
	case typ == "func()":
		return "func() { print(\"f\") }"
	case typ == "func(int) int":
		return "tn"
	}
	return "func(s string, p *T) string { return s }"
}

func (a *author) number() string {
	switch a.Intn(14) {
	case 0:
		return "tn(" + a.expr("int") + ")"
	case 1:
		return "up()"
	case 2:
		return "(-" + a.expr("int") + ")"
	case 3, 4:
		return "(" + a.expr("int") + a.oneOf("+", "-", "*") + a.expr("int") + ")"
	case 12:
		by := strconv.Itoa(1 + a.Intn(9))
		if a.maybe(5) {
			by = a.expr("int")
		}
		return "(" + a.expr("int") + a.oneOf("/", "%") + by + ")"
	case 5:
		return "len(" + a.expr(a.oneOf("string", "[]int", "[]string", "chan int")) + ")"
	case 6:
		return "cap(" + a.expr(a.oneOf("[]int", "[]*T", "chan *T")) + ")"
	case 7:
		return a.thing() + ".n"
	case 8:
		return a.mostly("il", "[]int") + "[" + a.small() + "]"
	case 9:
		return a.mostly("is", "string") + "[" + a.small() + "]"
	case 10:
		return a.expr("func(int) int") + "(" + a.expr("int") + ")"
	case 11:
		if c := a.named("chan int", false); c != "" && a.maybe(4) {
			return "(<-" + c + ")"
		}
	}
	return strconv.Itoa(a.Intn(10))
}

// mostly is something of a type with which, mostly, nothing can go wrong: the function sees to that.
func (a *author) mostly(function, typ string) string {
	if a.maybe(10) {
		return a.expr(typ)
	}
	return function + "(" + a.expr(typ) + ")"
}

func (a *author) thing() string { return a.mostly("ip", "*T") }

func (a *author) small() string {
	if a.maybe(8) {
		return a.expr("int")
	}
	return a.oneOf("0", "0", "1")
}

func (a *author) truth() string {
	switch a.Intn(7) {
	case 0:
		return "tb(" + a.expr("bool") + ")"
	case 1:
		return "(!" + a.expr("bool") + ")"
	case 2:
		typ := a.oneOf("int", "string")
		return "(" + a.expr(typ) + a.oneOf("<", "<=", ">", ">=") + a.expr(typ) + ")"
	case 3:
		typ := a.oneOf("int", "bool", "string", "*T", "chan int")
		return "(" + a.expr(typ) + a.oneOf("==", "!=") + a.fit(typ) + ")"
	case 4:
		return "(nil " + a.oneOf("==", "!=") + a.expr(a.oneOf("*T", "[]int", "chan *T", "func()")) + ")"
	case 5:
		return "(" + a.expr("bool") + a.oneOf("&&", "||") + a.expr("bool") + ")"
	}
	return a.oneOf("true", "false")
}

func (a *author) str() string {
	switch a.Intn(8) {
	case 0:
		return "ts(" + a.expr("string") + ")"
	case 1, 2:
		return "(" + a.expr("string") + "+" + a.expr("string") + ")"
	case 3:
		return a.mostly("is", "string") + "[" + a.bound() + ":" + a.oneOf("", "1", "tn(2)") + "]"
	case 4:
		return a.thing() + ".s"
	case 5:
		return a.expr("func(string, *T) string") + "(" + a.expr("string") + "," + a.fit("*T") + ")"
	case 6:
		return "recover()"
	}
	return a.oneOf(`""`, `"a"`, `"bc"`)
}

func (a *author) bound() string { return a.oneOf("", "", "0", "tn(0)", "1") }

func (a *author) pointer() string {
	switch a.Intn(6) {
	case 0:
		return "tp(" + a.fit("*T") + ")"
	case 1:
		return "new(T)"
	case 2:
		return a.thing() + ".p"
	case 3:
		return "(&T{l: append(" + a.expr("[]*T") + ", gp, gp)}).l[" + a.small() + "]"
	}
	var inits []string
	for _, field := range [][2]string{{"p", "*T"}, {"n", "int"}, {"f", "func(int) int"}, {"l", "[]*T"}, {"s", "string"}} {
		if a.maybe(3) {
			inits = append(inits, field[0]+": "+a.fit(field[1]))
		}
	}
	return "(&T{" + strings.Join(inits, ", ") + "})"
}

func (a *author) list(typ, item string) string {
	switch a.Intn(6) {
	case 0:
		return "make(" + typ + ", " + a.small() + ")"
	case 1, 2:
		parts := []string{a.expr(typ)}
		for range a.Intn(3) {
			parts = append(parts, a.fit(item))
		}
		return "append(" + strings.Join(parts, ", ") + ")"
	case 3:
		return a.expr(typ) + "[" + a.bound() + ":" + a.bound() + "]"
	case 4:
		if typ == "[]int" {
			return "tl(" + a.expr(typ) + ")"
		}
	}
	var items []string
	for range a.Intn(3) {
		items = append(items, a.fit(item))
	}
	return "([]" + item + "{" + strings.Join(items, ", ") + "})"
}

// function is a function of a type in an expression.
func (a *author) function(typ string) string {
	if len(a.scopes) > 7 {
		return plainest(typ)
	}
	result, around := a.result, a.around
	a.around = nil
	text := a.within(func() {
		a.enter()
		switch typ {
		case "func()":
			a.put("func() {")
			a.result = ""
		case "func(int) int":
			name := a.fresh()
			a.put("func(", name, " int) int {")
			a.declare(name, "int", false)
			a.result = "int"
		default:
			one, two := a.fresh(), a.fresh()
			a.put("func(", one, " string, ", two, " *T) string {")
			a.declare(one, "string", false)
			a.declare(two, "*T", false)
			a.result = "string"
		}
		a.stmts(3)
		if a.result != "" {
			a.put("return ", a.expr(a.result), "\n")
		}
		a.leave()
		a.put("}")
	})
	a.result, a.around = result, around
	return text
}

func (a *author) stmts(most int) {
	a.put("\n")
	for range 1 + a.Intn(most) {
		a.stmt()
		a.put("\n")
	}
}

func (a *author) block(most int) {
	a.put("{")
	a.enter()
	a.stmts(most)
	a.leave()
	a.put("}")
}

func (a *author) stmt() {
	a.left--
	if a.left < 0 {
		a.put("print(\".\")")
		return
	}
	switch a.Intn(18) {
	case 0:
		a.block(3)
	case 1:
		a.put("if ", a.expr("bool"), " ")
		a.block(3)
		if a.maybe(2) {
			a.put(" else ")
			a.block(3)
		} else if a.maybe(2) {
			a.put(" else if ", a.expr("bool"), " ")
			a.block(2)
		}
	case 2, 3:
		a.loop()
	case 4:
		a.choice()
	case 5:
		a.selection()
	case 6:
		a.jump()
	case 7:
		a.put("func() { defer func() { print(\"!\", recover()) }()\n")
		a.guarded()
		a.put("}()")
	case 8:
		a.put(a.oneOf("go ", "defer "), a.call())
	case 9:
		a.put(a.call())
	case 10:
		a.put("print(", a.expr(a.oneOf("int", "bool", "string")), ", \",\", ", a.expr("int"), ")")
	case 11:
		if a.maybe(3) {
			a.channels()
		} else {
			a.exchange()
		}
	case 12, 13, 14:
		a.assign()
	default:
		a.define()
	}
}

// guarded writes statements of a function of their own, whose panics are caught.
func (a *author) guarded() {
	result, around := a.result, a.around
	a.result, a.around = "", nil
	a.enter()
	a.stmts(4)
	if a.maybe(3) {
		a.put("panic(", a.expr("string"), ")\n")
	}
	a.leave()
	a.result, a.around = result, around
}

func (a *author) define() {
	typ := a.typ()
	name := a.fresh()
	switch a.Intn(4) {
	case 0:
		a.put("var ", name, " ", typ)
	case 1:
		a.put("var ", name, " ", typ, " = ", a.fit(typ))
	default:
		a.put(name, " := ", a.expr(typ))
	}
	a.declare(name, typ, false)
}

func (a *author) target() (string, string) {
	if !a.maybe(3) {
		typ := a.typ()
		if name := a.named(typ, true); name != "" {
			return name, typ
		}
	}
	switch a.Intn(4) {
	case 0:
		return a.thing() + ".n", "int"
	case 1:
		return a.thing() + ".p", "*T"
	case 2:
		return a.thing() + ".s", "string"
	}
	return a.mostly("il", "[]int") + "[" + a.small() + "]", "int"
}

func (a *author) assign() {
	target, typ := a.target()
	// A target begins no statement with these.
	for strings.HasPrefix(target, "func") || strings.HasPrefix(target, "(") {
		target, typ = "gn", "int"
	}
	switch {
	case typ == "int" && a.maybe(3):
		a.put(target, a.oneOf("++", "--"))
	case typ == "int" && a.maybe(2):
		a.put(target, a.oneOf(" += ", " -= ", " *= "), a.expr(typ))
	case typ == "string" && a.maybe(2):
		a.put(target, " += ", a.expr(typ))
	default:
		a.put(target, " = ", a.fit(typ))
	}
}

func (a *author) call() string {
	typ := a.oneOf("func()", "func()", "func(int) int", "func(string, *T) string")
	f := a.expr(typ)
	switch typ {
	case "func()":
		return f + "()"
	case "func(int) int":
		return f + "(" + a.expr("int") + ")"
	}
	return f + "(" + a.expr("string") + ", " + a.fit("*T") + ")"
}

func (a *author) labelled(loops bool) func() {
	label := ""
	if a.maybe(3) {
		label = strings.Replace(a.fresh(), "v", "l", 1)
		a.put(label, ": ")
	}
	a.around = append(a.around, around{label, loops})
	return func() { a.around = a.around[:len(a.around)-1] }
}

func (a *author) loop() {
	end := a.labelled(true)
	a.enter()
	name := a.fresh()
	switch a.Intn(4) {
	case 0:
		body := a.within(func() { a.block(3) })
		a.put("for ", strings.TrimSuffix(body, "}"), "break\n}")
	default:
		a.put("for ", name, " := 0; ", name, " < ", strconv.Itoa(1+a.Intn(3)), "; ", name, "++ ")
		a.declare(name, "int", true)
		a.block(4)
	}
	a.leave()
	end()
}

// jump writes a break or continue, if there is something that it may be meant for, or a return.
func (a *author) jump() {
	word := a.oneOf("break", "continue")
	var labels []string
	any := false
	for _, t := range a.around {
		if t.loops || word == "break" {
			any = true
			if t.label != "" {
				labels = append(labels, t.label)
			}
		}
	}
	switch {
	case len(labels) > 0 && a.maybe(2):
		a.put(word, " ", a.oneOf(labels...))
	case any:
		a.put(word)
	case a.result == "":
		a.put("return")
	default:
		a.put("return ", a.fit(a.result))
	}
}

func (a *author) choice() {
	end := a.labelled(false)
	typ := ""
	a.put("switch ")
	if a.maybe(2) {
		typ = a.oneOf("int", "string", "bool", "*T")
		a.put(a.expr(typ), " ")
	}
	a.put("{\n")
	count := a.Intn(4)
	isDefault := a.Intn(5)
	for k := range count {
		switch {
		case k == isDefault:
			a.put("default:")
		case typ == "":
			a.put("case ", a.expr("bool"), ":")
		default:
			a.put("case ", a.fit(typ), ", ", a.fit(typ), ":")
		}
		a.enter()
		a.stmts(2)
		a.leave()
		if k < count-1 && a.maybe(3) {
			a.put("fallthrough\n")
		}
	}
	a.put("}")
	end()
}

func (a *author) selection() {
	end := a.labelled(false)
	a.put("select {\n")
	for range a.Intn(4) {
		a.enter()
		item := a.oneOf("int", "*T")
		switch a.Intn(4) {
		case 0:
			a.put("case ", a.expr("chan "+item), " <- ", a.fit(item), ":")
		case 1:
			a.put("case <-", a.expr("chan "+item), ":")
		default:
			name := a.fresh()
			a.put("case ", name, " := <-", a.expr("chan "+item), ":")
			a.declare(name, item, false)
		}
		a.stmts(2)
		a.leave()
	}
	if !a.maybe(8) {
		a.put("default:\n")
		a.enter()
		a.stmts(2)
		a.leave()
	}
	a.put("}")
	end()
}

func (a *author) channels() {
	item := a.oneOf("int", "*T")
	c := a.expr("chan " + item)
	switch a.Intn(4) {
	case 0:
		a.put("close(", c, ")")
	case 1:
		a.put("<-", c)
	default:
		a.put(c, " <- ", a.fit(item))
	}
}

// exchange writes one that sends, and one that receives.
func (a *author) exchange() {
	item := a.oneOf("int", "*T")
	c, sent, got := a.fresh(), a.fresh(), a.fresh()
	count := strconv.Itoa(1 + a.Intn(4))
	a.put(c, " := make(chan ", item, ", ", a.oneOf("0", "1", "2"), ")\ngo func() {\n")
	a.enter()
	a.declare(c, "chan "+item, true)
	a.put("for ", sent, " := 0; ", sent, " < ", count, "; ", sent, "++ {\nfunc() { defer func() { print(\"?\", recover()) }()\n")
	a.declare(sent, "int", true)
	a.guarded()
	a.put("}()\n", c, " <- ", a.expr(item), "\n}\nclose(", c, ")\n}()\n")
	a.leave()
	a.put("for ", got, " := 0; ", got, " < ", count, "; ", got, "++ {\nprint(", got, ")\n", "<-", c, "\n}")
	a.declare(c, "chan "+item, false)
}

// file writes a whole file.
func (a *author) file() string {
	a.text = &strings.Builder{}
	a.put(declared)
	a.scopes = [][]variable{{{"gn", "int", false}, {"gs", "string", false}, {"gp", "*T", false}, {"gl", "[]int", false}}}
	a.put("func main() {\ngn = 7\ngp = ip(nil)\n")
	a.enter()
	most := a.left
	for range 1 + a.Intn(6) {
		a.left = most
		a.define()
		a.put("\nfunc() { defer func() { print(\"!\", recover(), \"\\n\") }()\n")
		a.guarded()
		a.put("}()\n")
	}
	a.leave()
	a.put("}\n")
	return a.text.String()
}

// written is a source by chance, of so many parts; empty, if it came to be greater than a source may be.
func written(chance *rand.Rand, parts int) string {
	a := &author{Rand: chance, left: parts}
	src := a.file()
	_, fault := check.Check(src)
	isMuch := len(src) > api.MaxSource || a.names > api.MaxVars/2 || strings.Count(src, "func") > api.MaxFuncs
	if isMuch || fault.Stage == api.TooDeep {
		return ""
	}
	return src
}
