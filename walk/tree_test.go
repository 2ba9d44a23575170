package walk_test

import (
	"maps"
	"slices"
	"strings"

	"derrick/api"
	"derrick/types"
	"derrick/walk"
)

// tree is the second way to what a source does: it goes through the unit's trees, with nothing of a program.
type tree struct {
	*world
	unit    api.Unit
	globals map[int]*any
}

// readTree runs a unit's trees with a schedule, for at most so many of the document's steps.
func readTree(u api.Unit, script []int, most int) (o api.Outcome, made walk.Made, steps int) {
	r := &tree{world: &world{script: script, most: most}, unit: u, globals: map[int]*any{}}
	for k, v := range u.Vars {
		if v.Func == 0 {
			r.globals[k+1] = newCell(zeroOf(v.Type))
		}
	}
	r.run(func(t *task) {
		r.step()
		r.invoke(t, nil, &closure{number: u.Main}, nil)
	})
	return r.outcome, r.made, r.steps
}

func newCell(v any) *any { return &v }

// zeroOf is the zero value of a type; what it leads to is nil, whatever it would be.
func zeroOf(t string) any {
	switch t {
	case "int":
		return 0
	case "bool":
		return false
	case "string":
		return ""
	}
	return nil
}

// closure is a function, with the variables that were there when it was made.
type closure struct {
	number int
	among  map[int]*any
}

// scope is a function under way.
type scope struct {
	*tree
	call   *invocation
	vars   map[int]*any
	result any
}

func (r *tree) invoke(t *task, by *invocation, f *closure, args []any) any {
	of := r.unit.Funcs[f.number-1]
	_, result, _ := types.Func(of.Type)
	zero := zeroOf(result)
	s := &scope{tree: r, vars: maps.Clone(f.among), result: zero}
	if s.vars == nil {
		s.vars = map[int]*any{}
	}
	panicked := r.under(t, by, func(c *invocation) {
		s.call = c
		for k, v := range of.Params {
			s.declare(v, args[k])
		}
		r.safepoint(t)
		s.stmts(of.Body.Kids)
	})
	if panicked {
		return zero
	}
	return s.result
}

func (s *scope) declare(number int, v any) {
	if s.unit.Vars[number-1].Boxed {
		s.made.Boxes++
	}
	s.vars[number] = newCell(v)
}

// variable is where a variable stands. In a for's first round one that its last part declares isn't made yet: it is zero.
func (s *scope) variable(number int) *any {
	v := s.unit.Vars[number-1]
	switch {
	case v.Func == 0:
		return s.globals[number]
	case s.vars[number] == nil:
		return newCell(zeroOf(v.Type))
	}
	return s.vars[number]
}

// exit is how statements are left: at their end (zero), or by a statement that leads elsewhere.
type exit struct {
	kind  int
	label string
}

// leads tells whether a break or continue is meant for a statement with a label.
func (e exit) leads(kind int, label string) bool {
	return e.kind == kind && (e.label == "" || e.label == label)
}

func (s *scope) stmts(list []api.Node) exit {
	for _, n := range list {
		if e := s.stmt(n, ""); e != (exit{}) {
			return e
		}
	}
	return exit{}
}

func (s *scope) stmt(n api.Node, label string) exit {
	s.step()
	switch n.Kind {
	case api.SLabel:
		return s.stmt(n.Kids[0], n.Text)
	case api.SBlock:
		return s.stmts(n.Kids)
	case api.SBreak, api.SContinue, api.SFall:
		return exit{n.Kind, n.Text}
	case api.SReturn:
		if n.Kids[0].Kind != api.NNone {
			s.result = s.expr(n.Kids[0])
		}
		return exit{kind: n.Kind}
	case api.SIf:
		if s.expr(n.Kids[0]).(bool) {
			return s.stmt(n.Kids[1], "")
		}
		return s.stmt(n.Kids[2], "")
	case api.SFor:
		return s.loop(n.Kids[0], n.Kids[1], n.Kids[2], n.Kids[3], label)
	case api.SSwitch, api.SSelect:
		e := exit{}
		if n.Kind == api.SSwitch {
			e = s.choose(n.Kids[0], n.Kids[1:])
		} else {
			e = s.await(n.Kids)
		}
		if e.leads(api.SBreak, label) {
			return exit{}
		}
		return e
	}
	s.simple(n)
	return exit{}
}

func (s *scope) loop(first, condition, last, block api.Node, label string) exit {
	s.simple(first)
	for {
		s.step()
		s.safepoint(s.call.task)
		if condition.Kind != api.NNone && !s.expr(condition).(bool) {
			return exit{}
		}
		e := s.stmt(block, "")
		if e.leads(api.SBreak, label) {
			return exit{}
		}
		if e != (exit{}) && !e.leads(api.SContinue, label) {
			return e
		}
		s.simple(last)
	}
}

func (s *scope) choose(tag api.Node, clauses []api.Node) exit {
	var value any = true
	if tag.Kind != api.NNone {
		value = s.expr(tag)
	}
	chosen := slices.IndexFunc(clauses, func(c api.Node) bool {
		exprs := c.Kids[:len(c.Kids)-1]
		return slices.ContainsFunc(exprs, func(n api.Node) bool { return s.expr(n) == value })
	})
	if chosen < 0 {
		chosen = slices.IndexFunc(clauses, func(c api.Node) bool { return c.Text == "default" })
	}
	for ; chosen >= 0; chosen++ {
		kids := clauses[chosen].Kids
		if e := s.stmts(kids[len(kids)-1].Kids); e.kind != api.SFall {
			return e
		}
	}
	return exit{}
}

func (s *scope) await(nodes []api.Node) exit {
	var offers []*offer
	blocks, names := map[*offer]api.Node{}, map[*offer]int{}
	var other *api.Node
	for _, n := range nodes {
		last := n.Kids[len(n.Kids)-1]
		if n.Text == "default" {
			other = &last
			continue
		}
		o := &offer{task: s.call.task}
		if n.Text == "send" {
			o.at, _ = s.expr(n.Kids[0]).(*channel)
			o.sends, o.item = true, s.expr(n.Kids[1])
		} else {
			o.at, _ = s.expr(n.Kids[len(n.Kids)-2]).(*channel)
			if n.Kids[0].Kind == api.NParam {
				names[o] = n.Kids[0].Ref
			}
		}
		offers, blocks[o] = append(offers, o), last
	}
	taken := s.settle(s.call.task, offers, other != nil)
	if taken == nil {
		return s.stmts(other.Kids)
	}
	if names[taken] > 0 {
		s.declare(names[taken], taken.item)
	}
	return s.stmts(blocks[taken].Kids)
}

func (s *scope) simple(n api.Node) {
	t := s.call.task
	switch n.Kind {
	case api.SDefine:
		s.declare(n.Ref, s.expr(n.Kids[0]))
	case api.SVar:
		v := zeroOf(s.unit.Vars[n.Ref-1].Type)
		if n.Kids[1].Kind != api.NNone {
			v = s.expr(n.Kids[1])
		}
		s.declare(n.Ref, v)
	case api.SAssign, api.SStep:
		s.assign(n)
	case api.SExpr:
		s.expr(n.Kids[0])
	case api.SSend:
		at, _ := s.expr(n.Kids[0]).(*channel)
		s.settle(t, []*offer{{task: t, at: at, sends: true, item: s.expr(n.Kids[1])}}, false)
	case api.SGo:
		f, args := s.callee(n.Kids[0])
		s.launch(func(t *task) { s.invoke(t, nil, f, args) })
		s.safepoint(t)
	case api.SDefer:
		f, args := s.callee(n.Kids[0])
		s.call.deferred = append(s.call.deferred, func() { s.invoke(t, s.call, f, args) })
	}
}

// assign reads and writes what the target's parts led to when they were evaluated.
func (s *scope) assign(n api.Node) {
	target := n.Kids[0]
	place := func() *any { return s.variable(target.Ref) }
	switch target.Kind {
	case api.EIndex:
		list, k := asList(s.expr(target.Kids[0])), s.expr(target.Kids[1]).(int)
		place = func() *any { return list.place(k) }
	case api.ESel:
		o, _ := s.expr(target.Kids[0]).(*record)
		place = func() *any { return o.field(target.Text) }
	}
	if n.Kind == api.SStep {
		by := map[string]int{"++": 1, "--": -1}[n.Text]
		v := (*place()).(int) + by
		*place() = v
		return
	}
	if n.Text == "=" {
		v := s.expr(n.Kids[1])
		*place() = v
		return
	}
	was := *place()
	v := operate(n.Text[:1], was, s.expr(n.Kids[1]))
	*place() = v
}

func (s *scope) callee(n api.Node) (*closure, []any) {
	f, _ := s.expr(n.Kids[0]).(*closure)
	args := s.exprs(n.Kids[1:])
	must(f != nil, "call of nil function")
	return f, args
}

func (s *scope) exprs(list []api.Node) []any {
	var values []any
	for _, n := range list {
		values = append(values, s.expr(n))
	}
	return values
}

func (s *scope) expr(n api.Node) any {
	s.step()
	switch n.Kind {
	case api.EInt:
		return n.Num
	case api.EStr:
		return n.Text
	case api.EBool:
		return n.Text == "true"
	case api.EName:
		if n.Ref < 0 {
			return &closure{number: -n.Ref}
		}
		return *s.variable(n.Ref)
	case api.EFunc:
		s.made.Closures++
		return &closure{number: n.Ref, among: maps.Clone(s.vars)}
	case api.EUnary:
		return s.unary(n)
	case api.EBinary:
		left := s.expr(n.Kids[0])
		if n.Text == "&&" && left == false || n.Text == "||" && left == true {
			return left
		}
		return operate(n.Text, left, s.expr(n.Kids[1]))
	case api.ECall:
		f, args := s.callee(n)
		return s.invoke(s.call.task, nil, f, args)
	case api.EBuiltin:
		return s.builtin(n)
	case api.EIndex, api.ESlice, api.ESel:
		return s.part(n)
	case api.ENew:
		values := map[string]any{}
		for _, init := range n.Kids {
			values[init.Text] = s.expr(init.Kids[0])
		}
		o := s.newRecord(n.Text)
		for name, v := range values {
			*o.field(name) = v
		}
		return o
	case api.EList:
		return s.newList(s.exprs(n.Kids[1:]))
	}
	return nil
}

func (s *scope) unary(n api.Node) any {
	v := s.expr(n.Kids[0])
	switch n.Text {
	case "-":
		return -v.(int)
	case "!":
		return !v.(bool)
	}
	at, _ := v.(*channel)
	return s.settle(s.call.task, []*offer{{task: s.call.task, at: at}}, false).item
}

func (s *scope) newRecord(name string) *record {
	s.made.Objects++
	k := slices.IndexFunc(s.unit.Structs, func(x api.Struct) bool { return x.Name == name })
	o := &record{map[string]*any{}}
	for _, f := range s.unit.Structs[k].Fields {
		o.fields[f.Name] = newCell(zeroOf(f.Type))
	}
	return o
}

func (s *scope) part(n api.Node) any {
	of := s.expr(n.Kids[0])
	if n.Kind == api.ESel {
		o, _ := of.(*record)
		return *o.field(n.Text)
	}
	text, isText := of.(string)
	list := asList(of)
	if n.Kind == api.EIndex {
		k := s.expr(n.Kids[1]).(int)
		if !isText {
			return *list.place(k)
		}
		must(k >= 0 && k < len(text), "index out of range")
		return int(text[k])
	}
	low, high, most := 0, list.length, list.capacity()
	if isText {
		high, most = len(text), len(text)
	}
	if n.Kids[1].Kind != api.NNone {
		low = s.expr(n.Kids[1]).(int)
	}
	if n.Kids[2].Kind != api.NNone {
		high = s.expr(n.Kids[2]).(int)
	}
	must(0 <= low && low <= high && high <= most, "slice bounds out of range")
	switch {
	case isText:
		return text[low:high]
	case of == nil:
		return nil
	}
	return list.cut(low, high)
}

func (s *scope) builtin(n api.Node) any {
	element, _ := types.Elem(n.Type)
	switch n.Text {
	case "new":
		return s.newRecord(n.Kids[0].Text)
	case "make":
		count := 0
		if len(n.Kids) > 1 {
			count = s.expr(n.Kids[1]).(int)
		}
		must(count >= 0 && count <= api.MaxMake, "bad length")
		if strings.HasPrefix(n.Type, "chan") {
			s.made.Chans++
			return &channel{places: count, zero: zeroOf(element)}
		}
		return s.newList(slices.Repeat([]any{zeroOf(element)}, count))
	}
	args := s.exprs(n.Kids)
	switch n.Text {
	case "append":
		return s.appended(args[0], args[1:], zeroOf(element))
	case "len":
		length, _ := sizes(args[0])
		return length
	case "cap":
		_, capacity := sizes(args[0])
		return capacity
	case "close":
		s.shut(args[0])
	case "panic":
		panic(crash{args[0].(string)})
	case "print":
		s.put(args)
	case "recover":
		return s.call.recovered()
	}
	return nil
}

func operate(operator string, left, right any) any {
	switch operator {
	case "==":
		return left == right
	case "!=":
		return left != right
	case "&&", "||":
		return right
	}
	if x, isText := left.(string); isText {
		y := right.(string)
		must(operator != "+" || len(x)+len(y) <= api.MaxSlots, "text too long")
		return map[string]any{"+": x + y, "<": x < y, "<=": x <= y, ">": x > y, ">=": x >= y}[operator]
	}
	x, y := left.(int), right.(int)
	switch operator {
	case "/":
		must(y != 0, "divide by zero")
		return x / y
	case "%":
		must(y != 0, "divide by zero")
		return x % y
	}
	return map[string]any{"+": x + y, "-": x - y, "*": x * y, "<": x < y, "<=": x <= y, ">": x > y, ">=": x >= y}[operator]
}
