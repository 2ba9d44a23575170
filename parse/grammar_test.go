package parse

import (
	"slices"
	"strings"
	"testing"

	"derrick/api"
	"derrick/lex"
)

// The chapter's grammar once more, as text. Target and call, which the chapter says in words, are rules here.
const grammarText = `
file      = { decl ";" } end
decl      = "type" name "struct" "{" { field ";" } "}" | "var" name type | "func" name signature block
field     = name type
signature = "(" [ param { "," param } ] ")" [ type ]
param     = name type
type      = "int" | "bool" | "string" | "*" name | "[" "]" type | "chan" type | "func" "(" [ type { "," type } ] ")" [ type ]
block     = "{" stmts "}"
stmts     = [ stmt ] { ";" [ stmt ] }
stmt      = "var" name type [ "=" expr ] | block | if | for | switch | select | name ":" ( for | switch | select ) | "break" [ name ] | "continue" [ name ] | "fallthrough" | "return" [ expr ] | "go" call | "defer" call | simple
simple    = name ":=" expr | target ( "=" | "+=" | "-=" | "*=" ) expr | target ( "++" | "--" ) | primary "<-" expr | call | "<-" unary
target    = name | primary "[" expr "]" | primary "." name
call      = primary "(" [ expr { "," expr } ] ")" | builtin "(" [ expr { "," expr } ] ")"
if        = "if" expr' block [ "else" ( if | block ) ]
for       = "for" [ expr' ] block | "for" [ simple' ] ";" [ expr' ] ";" [ simple' ] block
switch    = "switch" [ expr' ] "{" { clause } "}"
clause    = ( "case" expr { "," expr } | "default" ) ":" stmts
select    = "select" "{" { comm } "}"
comm      = ( "case" ( [ name ":=" ] "<-" unary | primary "<-" expr ) | "default" ) ":" stmts
expr      = unary { operator unary }
operator  = "||" | "&&" | "==" | "!=" | "<" | "<=" | ">" | ">=" | "+" | "-" | "*" | "/" | "%"
unary     = ( "-" | "!" | "<-" ) unary | primary
primary   = operand { "(" [ expr { "," expr } ] ")" | "[" expr "]" | "[" [ expr ] ":" [ expr ] "]" | "." name }
operand   = int | str | "true" | "false" | "nil" | name | "(" expr ")" | "func" signature block | "&" name "{" [ init { "," init } [ "," ] ] "}" | "[" "]" type "{" [ expr { "," expr } [ "," ] ] "}" | "make" "(" type [ "," expr ] ")" | "new" "(" name ")" | builtin "(" [ expr { "," expr } ] ")"
init      = name ":" expr
builtin   = "append" | "cap" | "close" | "len" | "panic" | "print" | "recover"
`

// inHeads are the rules that stand in heads too, where they have a stroke behind their name.
const inHeads = " simple target call expr unary primary operand "

// A symbol is a rule's number from 0 on, or below 0 a terminal: -1 and on.
type grammar struct {
	rules     map[string]int
	terminals map[string]int
	bodies    [][][]int // by rule: its alternatives
	nullable  []bool
	marks     [][][]int // by rule, alternative and dot: a number of its own
	dots      []dot     // by that number
}

type dot struct{ rule, alternative, at int }

func (g *grammar) rule(name string) int {
	if n, ok := g.rules[name]; ok {
		return n
	}
	g.rules[name] = len(g.bodies)
	g.bodies = append(g.bodies, nil)
	return len(g.bodies) - 1
}

func (g *grammar) terminal(name string) int {
	if g.terminals[name] == 0 {
		g.terminals[name] = -1 - len(g.terminals)
	}
	return g.terminals[name]
}

// alternatives reads a text of the grammar up to what closes it; names get a stroke outside of brackets if it is a head's.
func (g *grammar) alternatives(words *[]string, head bool, open *int) [][]int {
	all := [][]int{nil}
	for len(*words) > 0 {
		w := (*words)[0]
		*words = (*words)[1:]
		last := &all[len(all)-1]
		switch w {
		case "|":
			all = append(all, nil)
		case "]", "}", ")":
			return all
		case "[", "{", "(":
			*last = append(*last, g.group(w, g.alternatives(words, head, open)))
		default:
			*last = append(*last, g.symbol(w, head, open))
		}
	}
	return all
}

// group makes a rule of its own of what stands in the grammar's brackets.
func (g *grammar) group(bracket string, inner [][]int) int {
	n := len(g.bodies)
	g.bodies = append(g.bodies, nil)
	switch bracket {
	case "[":
		inner = append(inner, nil)
	case "{":
		for i := range inner {
			inner[i] = append([]int{n}, inner[i]...)
		}
		inner = append(inner, nil)
	}
	g.bodies[n] = inner
	return n
}

func (g *grammar) symbol(w string, head bool, open *int) int {
	if w[0] == '"' {
		w = strings.Trim(w, `"`)
		if strings.Contains("([", w) {
			*open++
		} else if strings.Contains(")]", w) {
			*open--
		}
		return g.terminal(w)
	}
	if slices.Contains([]string{"name", "int", "str", "end"}, w) {
		return g.terminal(w + "!")
	}
	if head && *open == 0 && strings.Contains(inHeads, " "+w+" ") {
		w += "'"
	}
	return g.rule(w)
}

func makeGrammar() *grammar {
	g := &grammar{rules: map[string]int{}, terminals: map[string]int{}}
	for _, line := range strings.Split(strings.TrimSpace(grammarText), "\n") {
		words := strings.Fields(line)
		name, body := words[0], words[2:]
		open := 0
		rule := g.rule(name)
		rest := body
		g.bodies[rule] = g.alternatives(&rest, false, &open)
		if !strings.Contains(inHeads, " "+name+" ") {
			continue
		}
		rest = body
		rule = g.rule(name + "'")
		for _, a := range g.alternatives(&rest, true, &open) {
			if name != "operand" || a[0] != g.terminal("&") && a[0] != g.terminal("[") {
				g.bodies[rule] = append(g.bodies[rule], a)
			}
		}
	}
	g.number()
	return g
}

// number gives each place in the rules a number, and finds the rules that may be nothing.
func (g *grammar) number() {
	g.nullable = make([]bool, len(g.bodies))
	for range g.bodies {
		for r, body := range g.bodies {
			for _, a := range body {
				g.nullable[r] = g.nullable[r] || !slices.ContainsFunc(a, func(s int) bool { return s < 0 || !g.nullable[s] })
			}
		}
	}
	g.marks = make([][][]int, len(g.bodies))
	for r, body := range g.bodies {
		g.marks[r] = make([][]int, len(body))
		for i, a := range body {
			for at := 0; at <= len(a); at++ {
				g.marks[r][i] = append(g.marks[r][i], len(g.dots))
				g.dots = append(g.dots, dot{r, i, at})
			}
		}
	}
}

// An item is a place in a rule, and behind how many tokens that rule began.
type item struct{ mark, from int }

// follower knows all ways in which a beginning of tokens may go on: a set of items behind each of them (Earley's way).
type follower struct {
	g    *grammar
	sets [][]item
	seen [][]bool // by mark and from: in the newest set
}

func (f *follower) add(it item) {
	for len(f.seen) <= it.from {
		f.seen = append(f.seen, make([]bool, len(f.g.dots)))
	}
	if f.seen[it.from][it.mark] {
		return
	}
	f.seen[it.from][it.mark] = true
	f.sets[len(f.sets)-1] = append(f.sets[len(f.sets)-1], it)
}

// next is the symbol that an item waits for, if there is one.
func (f *follower) next(it item) (int, bool) {
	d := f.g.dots[it.mark]
	a := f.g.bodies[d.rule][d.alternative]
	if d.at == len(a) {
		return 0, false
	}
	return a[d.at], true
}

// grow puts all that follows from the newest set's items into it.
func (f *follower) grow() {
	here := len(f.sets) - 1
	for i := 0; i < len(f.sets[here]); i++ {
		it := f.sets[here][i]
		symbol, waits := f.next(it)
		if !waits {
			rule := f.g.dots[it.mark].rule
			for j := 0; j < len(f.sets[it.from]); j++ {
				if back := f.sets[it.from][j]; f.waitsFor(back, rule) {
					f.add(item{back.mark + 1, back.from})
				}
			}
			continue
		}
		if symbol < 0 {
			continue
		}
		for _, marks := range f.g.marks[symbol] {
			f.add(item{marks[0], here})
		}
		if f.g.nullable[symbol] {
			f.add(item{it.mark + 1, it.from})
		}
	}
	for _, it := range f.sets[here] {
		f.seen[it.from][it.mark] = false
	}
}

func (f *follower) waitsFor(it item, symbol int) bool {
	s, waits := f.next(it)
	return waits && s == symbol
}

func follow(g *grammar) *follower {
	f := &follower{g: g, sets: [][]item{nil}}
	for _, marks := range g.marks[g.rules["file"]] {
		f.add(item{marks[0], 0})
	}
	f.grow()
	return f
}

// push goes past a token; false, and nothing has changed, if no source goes on with it.
func (f *follower) push(t api.Token) bool {
	terminal := f.g.terminals[className(t)]
	last := f.sets[len(f.sets)-1]
	f.sets = append(f.sets, nil)
	for _, it := range last {
		if terminal < 0 && f.waitsFor(it, terminal) {
			f.add(item{it.mark + 1, it.from})
		}
	}
	if len(f.sets[len(f.sets)-1]) == 0 {
		f.pop()
		return false
	}
	f.grow()
	return true
}

func (f *follower) pop() { f.sets = f.sets[:len(f.sets)-1] }

func className(t api.Token) string {
	switch t.Kind {
	case api.Name:
		return "name!"
	case api.Int:
		return "int!"
	case api.Str:
		return "str!"
	case api.End:
		return "end!"
	}
	return t.Text
}

// firstFault is the place of the first fault of a source's tokens by the grammar, and whether there is one.
func firstFault(g *grammar, tokens []api.Token) (int, bool) {
	f := follow(g)
	for _, t := range tokens {
		if !f.push(t) {
			return t.At, true
		}
	}
	return 0, false
}

// compareFault holds the parser's fault against the grammar's.
func compareFault(t *testing.T, g *grammar, src string) {
	t.Helper()
	tokens, fault := lex.Scan(src)
	if fault != (api.Fault{}) {
		t.Fatalf("%q: %v", src, fault)
	}
	want := api.Fault{}
	if at, bad := firstFault(g, tokens); bad {
		want = api.Fault{Stage: api.Syntax, At: at}
	}
	if _, got := Parse(src); got != want {
		t.Fatalf("%q: %v, not %v", src, got, want)
	}
}

// walker goes through all the ways in which a beginning may go on.
type walker struct {
	t      *testing.T
	f      *follower
	tokens []string
	count  int
}

// walk tries each token behind the source, and goes on behind those with which a source may go on.
func (w *walker) walk(src string, left int) {
	for _, text := range w.tokens {
		longer := src + " " + text
		w.count++
		tokens, fault := lex.Scan(text)
		if fault != (api.Fault{}) {
			w.t.Fatalf("%q: %v", text, fault)
		}
		_, got := Parse(longer)
		if !w.f.push(tokens[0]) {
			if want := (api.Fault{Stage: api.Syntax, At: len(src) + 1}); got != want {
				w.t.Fatalf("%q: %v, not %v", longer, got, want)
			}
			continue
		}
		if got != w.atEnd(tokens[1:], len(longer)) {
			w.t.Fatalf("%q: %v, not %v", longer, got, w.atEnd(tokens[1:], len(longer)))
		}
		if left > 1 {
			w.walk(longer, left-1)
		}
		w.f.pop()
	}
}

// atEnd is the fault of what stands behind the last token that is written: all of it stands at the source's end.
func (w *walker) atEnd(tokens []api.Token, end int) api.Fault {
	fault, pushed := api.Fault{}, 0
	for _, t := range tokens {
		if !w.f.push(t) {
			fault = api.Fault{Stage: api.Syntax, At: end}
			break
		}
		pushed++
	}
	for range pushed {
		w.f.pop()
	}
	return fault
}

const (
	everyToken = `x 7 "s" append bool break cap case chan close continue default defer else fallthrough false for func go if int len make new nil panic print recover return select string struct switch true type var := == != <= >= && || <- ++ -- += -= *= ( ) [ ] { } , ; : . = < > + - * / % ! &`
	// One token of each class between which the rules tell.
	fewTokens = `x 7 len case chan else for func if int make new nil return select string switch var := <- ++ += ( ) [ ] { } , ; : . = + - * ! &`
)

// TestAllShortEnds goes through all ways to go on from beginnings that lead into every rule.
func TestAllShortEnds(t *testing.T) {
	g := makeGrammar()
	body := "func f ( ) { "
	deep := []string{"", "type T struct {", "func f (", "func f ( ) {", body + "if", body + "for", body + "for ;", body + "for ; ;", body + "switch", body + "switch {", body + "select {", body + "select { case", body + "x", body + "( x )", body + "f ( )", body + "go", body + "<-", body + "return"}
	for _, start := range deep {
		walkFrom(t, g, start, fewTokens, 3)
	}
	wide := []string{"type", "type T", "type T struct { a int", "var x", "var x func (", "var x func ( int )", "var x [", "func", "func f", "func f ( a int", "func f ( ) *", body + "}", body + "{ }", body + "var x", body + "var x int", body + "L :", body + "break", body + "continue L", body + "fallthrough", body + "defer f", body + "go len ( x )", body + "go f ( )", body + "x = &", body + "x = & T", body + "x = & T {", body + "x = & T { a : 1", body + "x = & T { a : 1 ,", body + "x = [ ] int {", body + "x = [ ] int { 1", body + "x = [ ] int { 1 ,", body + "x [", body + "x [ 1", body + "x [ 1 :", body + "x [ : 2", body + "x [ 1 ]", body + "x [ 1 : 2 ]", body + "x . y", body + "x (", body + "x ( 1", body + "x ( 1 ,", body + "make (", body + "make ( chan int", body + "make ( chan int , 1", body + "make ( chan int )", body + "new", body + "new (", body + "new ( T )", body + "len", body + "recover (", body + "recover ( )", body + "recover ( ) ( )", body + "x :=", body + "x +=", body + "x ++", body + "x <-", body + "x <- 1", body + "<- c", body + "<- f ( )", body + "x = - !", body + "x = a + b", body + "x = func", body + "x = func ( )", body + "x = func ( ) { }", body + "if x", body + "if (", body + "if ( & T { }", body + "if x [", body + "if x [ & T { } ]", body + "if f (", body + "if func ( ) {", body + "if func ( ) { }", body + "if func ( ) { if", body + "if x { }", body + "if x { } else", body + "if x { } else if y { }", body + "if - x +", body + "for x", body + "for x :=", body + "for x := 1", body + "for x [ 1 ]", body + "for f ( )", body + "for ( f ( ) )", body + "for f ( ) [ 1 : ]", body + "for <- c", body + "for <- c + 1", body + "for - c", body + "for x + y", body + "for len ( x )", body + "for make ( chan int )", body + "for { }", body + "for x { }", body + "for f ( ) ;", body + "for ; x", body + "for ; x ;", body + "for ; ; x", body + "for ; ; f ( )", body + "for ; ; <- c", body + "for ; ; x = 1", body + "switch x", body + "switch x {", body + "switch { case", body + "switch { case x", body + "switch { case x :", body + "switch { case x : return", body + "switch { default", body + "switch { default :", body + "switch { default : }", body + "select", body + "select { case x", body + "select { case ( x )", body + "select { case x :=", body + "select { case x := <- c", body + "select { case <- c", body + "select { case c <- 1", body + "select { case c <- 1 :", body + "select { default", body + "select { default : x = 1", body + "x = ( y", body + "x = ( y )"}
	for _, start := range wide {
		walkFrom(t, g, start, everyToken, 2)
	}
}

func walkFrom(t *testing.T, g *grammar, start, tokens string, left int) {
	f := follow(g)
	scanned, fault := lex.Scan(start)
	if fault != (api.Fault{}) {
		t.Fatalf("%q: %v", start, fault)
	}
	for _, token := range scanned {
		if token.At < len(start) && !f.push(token) {
			t.Fatalf("%q: the test's own beginning is none at %d", start, token.At)
		}
	}
	w := &walker{t: t, f: f, tokens: strings.Fields(tokens)}
	w.walk(start, left)
}

// TestLongWays follows the grammar at random, and leaves it at last: by another token, or where the source ends.
func TestLongWays(t *testing.T) {
	g := makeGrammar()
	texts := strings.Fields(everyToken)
	for seed := 1; seed <= 1500; seed++ {
		r := &remainders{state: seed}
		f := follow(g)
		src := ""
		for range 3 + r.below(60) {
			text := texts[r.below(len(texts))]
			tokens, _ := lex.Scan(text)
			for tries := 0; !f.push(tokens[0]) && tries < 300; tries++ {
				text = texts[r.below(len(texts))]
				tokens, _ = lex.Scan(text)
			}
			src += text + []string{" ", "  ", "\t", " "}[r.below(4)]
		}
		tokens, fault := lex.Scan(src)
		if fault != (api.Fault{}) {
			continue // too deep
		}
		compareFault(t, g, src)
		cut := tokens[r.below(len(tokens))].At
		compareFault(t, g, src[:cut]+"\n"+src[cut:])
		compareFault(t, g, src[:cut]+texts[r.below(len(texts))]+" "+src[cut:])
		compareFault(t, g, src[:cut])
	}
}

// remainders are numbers that look like chance, and are the same each time.
type remainders struct{ state int }

func (r *remainders) below(n int) int {
	r.state = (r.state*1103515245 + 12345) % (1 << 31)
	return (r.state >> 8) % n
}
