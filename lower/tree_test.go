package lower_test

import (
	"maps"
	"strings"

	"derrick/api"
	"derrick/types"
)

// reader evaluates a unit's trees, as the document says what a source does: what its program does is held against it.
type reader struct {
	*world
	unit    api.Unit
	globals map[int]*cell
}

// runTree runs a source's trees with a schedule.
func runTree(u api.Unit, script []int, limit int) *world {
	r := &reader{world: newWorld(script, limit), unit: u, globals: map[int]*cell{}}
	for k, v := range u.Vars {
		if v.Func == 0 {
			r.globals[k+1] = &cell{zeroOf(types.Reference(v.Type))}
		}
	}
	r.run(func(t *task) { r.invoke(t, nil, &function{number: u.Main}, nil) })
	return r.world
}

func (r *reader) invoke(t *task, by *frame, f *function, args []value) value {
	of := r.unit.Funcs[f.number-1]
	_, result, _ := types.Func(of.Type)
	zero := zeroOf(types.Reference(result))
	return r.call(t, by, zero, func(fr *frame) value {
		s := &scope{reader: r, frame: fr, vars: maps.Clone(f.among)}
		if s.vars == nil {
			s.vars = map[int]*cell{}
		}
		for k, v := range of.Params {
			s.declare(v, args[k])
		}
		r.safepoint(t)
		s.stmts(of.Body.Kids)
		return s.answer
	})
}

// scope is a function under way. Each variable that was declared last under its number is there.
type scope struct {
	*reader
	frame  *frame
	vars   map[int]*cell
	answer value
}

// way is how a statement is left: by its end, or a jump to somewhere around it.
type way struct {
	kind  int // 0: by its end; else the kind of the statement
	label string
}

func (s *scope) declare(number int, v value) {
	if s.unit.Vars[number-1].Boxed {
		s.made.boxes++
	}
	s.vars[number] = &cell{v}
}

// variable is a variable's cell; of one that wasn't declared yet a zero one.
func (s *scope) variable(number int) *cell {
	v := s.unit.Vars[number-1]
	if v.Func == 0 {
		return s.globals[number]
	}
	if s.vars[number] == nil {
		return &cell{zeroOf(types.Reference(v.Type))}
	}
	return s.vars[number]
}

func (s *scope) stmts(list []api.Node) way {
	for _, n := range list {
		if w := s.stmt(n, ""); w.kind != 0 {
			return w
		}
	}
	return way{}
}

func (s *scope) stmt(n api.Node, label string) way {
	s.step()
	switch n.Kind {
	case api.SBlock:
		return s.stmts(n.Kids)
	case api.SLabel:
		return s.stmt(n.Kids[0], n.Text)
	case api.SIf:
		switch {
		case s.expr(n.Kids[0]) == 1:
			return s.stmt(n.Kids[1], "")
		case n.Kids[2].Kind != api.NNone:
			return s.stmt(n.Kids[2], "")
		}
	case api.SFor:
		return s.loop(n.Kids, label)
	case api.SSwitch:
		return after(s.choice(n.Kids), label)
	case api.SSelect:
		return after(s.selection(n.Kids), label)
	case api.SBreak, api.SContinue, api.SFall:
		return way{n.Kind, n.Text}
	case api.SReturn:
		if n.Kids[0].Kind != api.NNone {
			s.answer = s.expr(n.Kids[0])
		}
		return way{kind: n.Kind}
	default:
		s.simple(n)
	}
	return way{}
}

// after is how a switch or select is left, when its statements were left in some way.
func after(w way, label string) way {
	if w.kind == api.SBreak && (w.label == "" || w.label == label) {
		return way{}
	}
	return w
}

func (s *scope) loop(kids []api.Node, label string) way {
	if last := kids[2]; last.Kind == api.SDefine {
		delete(s.vars, last.Ref)
	}
	for s.simple(kids[0]); ; s.simple(kids[2]) {
		s.step()
		s.safepoint(s.frame.task)
		if kids[1].Kind != api.NNone && s.expr(kids[1]) == 0 {
			return way{}
		}
		w := s.stmt(kids[3], "")
		isMine := w.label == "" || w.label == label
		switch {
		case w.kind == 0 || w.kind == api.SContinue && isMine:
		case w.kind == api.SBreak && isMine:
			return way{}
		default:
			return w
		}
	}
}

func (s *scope) choice(kids []api.Node) way {
	tag, clauses := kids[0], kids[1:]
	var wanted value = 1
	of := "bool"
	if tag.Kind != api.NNone {
		wanted, of = s.expr(tag), tag.Type
	}
	taken := -1
	for k, clause := range clauses {
		if clause.Text == "default" {
			taken = k
		}
	}
search:
	for k, clause := range clauses {
		for _, n := range clause.Kids[:len(clause.Kids)-1] {
			if same(of, wanted, s.expr(n)) {
				taken = k
				break search
			}
		}
	}
	for taken >= 0 {
		w := s.stmts(clauses[taken].Kids[len(clauses[taken].Kids)-1].Kids)
		if w.kind != api.SFall {
			return w
		}
		taken++
	}
	return way{}
}

func same(of string, left, right value) bool {
	if of == "string" {
		return textOf(left) == textOf(right)
	}
	return left == right
}

func (s *scope) selection(nodes []api.Node) way {
	var comms []comm
	var blocks []api.Node
	var names []int
	other := api.Node{}
	hasDefault := false
	for _, n := range nodes {
		last := len(n.Kids) - 1
		c, name := comm{}, 0
		switch n.Text {
		case "default":
			other, hasDefault = n.Kids[last], true
			continue
		case "send":
			c.at = chanOf(s.expr(n.Kids[0]))
			c.send, c.value = true, s.expr(n.Kids[1])
		default:
			c.at = chanOf(s.expr(n.Kids[last-1]))
			if last == 2 {
				name = n.Kids[0].Ref
			}
		}
		comms, blocks, names = append(comms, c), append(blocks, n.Kids[last]), append(names, name)
	}
	chosen, v := s.communicate(s.frame.task, comms, hasDefault)
	if chosen < 0 {
		return s.stmts(other.Kids)
	}
	if names[chosen] != 0 {
		s.declare(names[chosen], v)
	}
	return s.stmts(blocks[chosen].Kids)
}

func (s *scope) simple(n api.Node) {
	switch n.Kind {
	case api.SDefine:
		s.declare(n.Ref, s.expr(n.Kids[0]))
	case api.SVar:
		v := zeroOf(types.Reference(s.unit.Vars[n.Ref-1].Type))
		if n.Kids[1].Kind != api.NNone {
			v = s.expr(n.Kids[1])
		}
		s.declare(n.Ref, v)
	case api.SAssign, api.SStep:
		s.assign(n)
	case api.SSend:
		at := chanOf(s.expr(n.Kids[0]))
		s.communicate(s.frame.task, []comm{{at: at, send: true, value: s.expr(n.Kids[1])}}, false)
	case api.SExpr:
		s.expr(n.Kids[0])
	case api.SGo:
		f, args := s.callee(n.Kids[0])
		s.launch(func(t *task) { s.invoke(t, nil, f, args) })
		s.safepoint(s.frame.task)
	case api.SDefer:
		f, args := s.callee(n.Kids[0])
		s.frame.deferred = append(s.frame.deferred, func() { s.invoke(s.frame.task, s.frame, f, args) })
	}
}

// target evaluates what a target is made of, and answers how it is read and written.
func (s *scope) target(n api.Node) func() *value {
	switch n.Kind {
	case api.EName:
		return func() *value { return &s.variable(n.Ref).value }
	case api.EIndex:
		of, at := s.expr(n.Kids[0]), s.expr(n.Kids[1]).(int)
		return func() *value { return itemOf(of, at) }
	}
	of := s.expr(n.Kids[0])
	return func() *value { return &fieldsOf(of)[s.field(n.Kids[0].Type, n.Text)] }
}

func (s *scope) assign(n api.Node) {
	to := s.target(n.Kids[0])
	if n.Text == "=" {
		v := s.expr(n.Kids[1])
		*to() = v
		return
	}
	was := *to()
	var by value = 1
	if n.Kind == api.SAssign {
		by = s.expr(n.Kids[1])
	}
	v := operate(n.Text[:1], n.Kids[0].Type, was, by)
	*to() = v
}

func (s *scope) structOf(pointer string) (int, api.Struct) {
	for k, x := range s.unit.Structs {
		if "*"+x.Name == pointer {
			return k, x
		}
	}
	panic(pointer)
}

func (s *scope) field(pointer, name string) int {
	_, of := s.structOf(pointer)
	for k, f := range of.Fields {
		if f.Name == name {
			return k
		}
	}
	panic(name)
}

func (s *scope) callee(n api.Node) (*function, []value) {
	f, _ := s.expr(n.Kids[0]).(*function)
	args := s.exprs(n.Kids[1:])
	must(f != nil, "call of nil function")
	return f, args
}

func (s *scope) exprs(list []api.Node) []value {
	var values []value
	for _, n := range list {
		values = append(values, s.expr(n))
	}
	return values
}

func (s *scope) expr(n api.Node) value {
	s.step()
	switch n.Kind {
	case api.EInt:
		return n.Num
	case api.EBool:
		return numberOf(n.Text == "true")
	case api.EStr:
		return n.Text
	case api.ENil:
		return nil
	case api.EName:
		if n.Ref < 0 {
			return &function{number: -n.Ref}
		}
		return s.variable(n.Ref).value
	case api.EUnary:
		return s.unary(n.Text, s.expr(n.Kids[0]))
	case api.EBinary:
		return s.binary(n)
	case api.ECall:
		f, args := s.callee(n)
		return s.invoke(s.frame.task, nil, f, args)
	case api.EBuiltin:
		return s.builtin(n)
	case api.EFunc:
		s.made.closures++
		return &function{number: n.Ref, among: maps.Clone(s.vars)}
	case api.EList:
		return s.newSlice(s.exprs(n.Kids[1:]))
	}
	return s.part(n)
}

// part is a part of something, or an object.
func (s *scope) part(n api.Node) value {
	if n.Kind == api.ENew {
		var values []value
		for _, init := range n.Kids {
			values = append(values, s.expr(init.Kids[0]))
		}
		o := s.object(n.Type)
		for k, init := range n.Kids {
			o.fields[s.field(n.Type, init.Text)] = values[k]
		}
		return o
	}
	of := s.expr(n.Kids[0])
	switch n.Kind {
	case api.ESel:
		return fieldsOf(of)[s.field(n.Kids[0].Type, n.Text)]
	case api.EIndex:
		at := s.expr(n.Kids[1]).(int)
		if n.Kids[0].Type == "string" {
			return byteOf(textOf(of), at)
		}
		return *itemOf(of, at)
	}
	low, high := 0, len(sizeText(of))
	if n.Type != "string" {
		high, _ = sizes(of)
	}
	if n.Kids[1].Kind != api.NNone {
		low = s.expr(n.Kids[1]).(int)
	}
	if n.Kids[2].Kind != api.NNone {
		high = s.expr(n.Kids[2]).(int)
	}
	if n.Type == "string" {
		return cutText(textOf(of), low, high)
	}
	return cutSlice(of, low, high)
}

func sizeText(v value) string {
	text, _ := v.(string)
	return text
}

func (s *scope) object(pointer string) *object {
	_, of := s.structOf(pointer)
	var refs []bool
	for _, f := range of.Fields {
		refs = append(refs, types.Reference(f.Type))
	}
	return s.newObject(refs)
}

func (s *scope) unary(operator string, v value) value {
	switch operator {
	case "-":
		return -v.(int)
	case "!":
		return 1 - v.(int)
	}
	_, got := s.communicate(s.frame.task, []comm{{at: chanOf(v)}}, false)
	return got
}

func (s *scope) binary(n api.Node) value {
	left := s.expr(n.Kids[0])
	switch {
	case n.Text == "&&" && left == 0, n.Text == "||" && left == 1:
		return left
	case n.Text == "&&" || n.Text == "||":
		return s.expr(n.Kids[1])
	}
	return operate(n.Text, n.Kids[0].Type, left, s.expr(n.Kids[1]))
}

func operate(operator, of string, left, right value) value {
	switch operator {
	case "==":
		return numberOf(same(of, left, right))
	case "!=":
		return numberOf(!same(of, left, right))
	case "<", "<=", ">", ">=":
		order := 0
		if of == "string" {
			order = strings.Compare(textOf(left), textOf(right))
		} else if left != right {
			order = 1
			if left.(int) < right.(int) {
				order = -1
			}
		}
		holds := order < 0
		if operator[0] == '>' {
			holds = order > 0
		}
		return numberOf(holds || order == 0 && len(operator) == 2)
	case "+":
		if of == "string" {
			return join(left, right)
		}
		return left.(int) + right.(int)
	case "-":
		return left.(int) - right.(int)
	case "*":
		return left.(int) * right.(int)
	}
	return divide(left.(int), right.(int), operator == "%")
}

func (s *scope) builtin(n api.Node) value {
	item, _ := types.Elem(n.Type)
	zero := zeroOf(types.Reference(item))
	switch n.Text {
	case "new":
		return s.object(n.Type)
	case "make":
		places := 0
		if len(n.Kids) > 1 {
			places = s.expr(n.Kids[1]).(int)
		}
		if strings.HasPrefix(n.Type, "chan ") {
			return s.makeChan(places, zero)
		}
		return s.makeSlice(places, zero)
	}
	args := s.exprs(n.Kids)
	switch n.Text {
	case "append":
		return s.appended(args[0], args[1:], zero)
	case "len", "cap":
		return size(n.Text, n.Kids[0].Type, args[0])
	case "close":
		s.closeChan(args[0])
	case "panic":
		panic(crash{textOf(args[0])})
	case "recover":
		return s.frame.recovered()
	case "print":
		for k, v := range args {
			s.put(printed(v, map[string]int{"int": 0, "bool": 1, "string": 2}[n.Kids[k].Type]))
		}
	}
	return nil
}

func size(word, of string, v value) value {
	switch {
	case of == "string":
		return len(textOf(v))
	case strings.HasPrefix(of, "chan "):
		c := chanOf(v)
		switch {
		case c == nil:
			return 0
		case word == "len":
			return len(c.list)
		}
		return c.places
	}
	length, capacity := sizes(v)
	if word == "len" {
		return length
	}
	return capacity
}
