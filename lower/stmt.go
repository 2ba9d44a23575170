package lower

import (
	"derrick/api"
	"derrick/code"
	"derrick/types"
)

func (b *builder) stmts(list []api.Node) {
	for _, n := range list {
		b.stmt(n)
	}
}

// stmt makes a statement, or none where one may lack. A fallthrough is made by its clause.
func (b *builder) stmt(n api.Node) {
	m := b.mark()
	switch n.Kind {
	case api.SBlock:
		b.stmts(n.Kids)
	case api.SIf:
		b.branch(n.Kids)
	case api.SFor, api.SSwitch, api.SSelect:
		b.breakable(n, "")
	case api.SLabel:
		b.breakable(n.Kids[0], n.Text)
	case api.SBreak, api.SContinue:
		b.leave(n)
	case api.SReturn:
		b.emit(code.Instr{Op: code.Return, A: b.optional(n.Kids[0])})
	case api.SExpr:
		b.alone(n.Kids[0])
	default:
		b.simple(n)
	}
	b.release(m)
}

// simple makes statements that have no blocks and go nowhere.
func (b *builder) simple(n api.Node) {
	switch n.Kind {
	case api.SDefine:
		b.declare(n.Ref, n.Kids[0])
	case api.SVar:
		b.declare(n.Ref, n.Kids[1])
	case api.SAssign:
		b.assign(n)
	case api.SStep:
		b.step(n)
	case api.SSend:
		b.emit(code.Instr{Op: code.Send, A: b.operand(n.Kids[0]), B: b.operand(n.Kids[1])})
	case api.SGo:
		b.later(code.Go, n.Kids[0])
		b.emit(code.Instr{Op: code.Yield})
	case api.SDefer:
		b.later(code.Defer, n.Kids[0])
	}
}

// declare makes a variable of an expr or of none.
func (b *builder) declare(number int, value api.Node) {
	v := b.variable(number)
	home := b.home(number)
	if !v.Boxed {
		b.initial(v.Type, value, home)
		return
	}
	b.emit(code.Instr{Op: code.MakeBox, A: home, B: b.initial(v.Type, value, anywhere)})
}

// initial is what a variable of a type has at first. Without an expr it is made zero, for in a loop it has been something else.
func (b *builder) initial(of string, value api.Node, want int) int {
	if value.Kind == api.NNone {
		return b.moved(b.zero(types.Reference(of)), want)
	}
	return b.expr(value, want)
}

func (b *builder) assign(n api.Node) {
	target, value := n.Kids[0], n.Kids[1]
	p := b.place(target)
	if n.Text == "=" {
		b.store(p, b.expr(value, p.register()))
		return
	}
	ref := types.Reference(target.Type)
	was := b.load(p, ref)
	operator := n.Text[:1]
	b.change(p, ref, b.operation(operator, target.Type, was, b.operand(value)))
}

func (b *builder) step(n api.Node) {
	p := b.place(n.Kids[0])
	was := b.load(p, false)
	one := b.temp(false)
	b.emit(code.Instr{Op: code.Const, A: one, B: 1})
	operator := n.Text[:1]
	b.change(p, false, b.operation(operator, "int", was, one))
}

// change writes to a place what an instruction makes.
func (b *builder) change(p place, ref bool, i code.Instr) {
	i.A = p.register()
	if i.A == anywhere {
		i.A = b.temp(ref)
	}
	b.emit(i)
	b.store(p, i.A)
}

// later makes a call that isn't made now, or not here.
func (b *builder) later(op int, n api.Node) {
	i := b.call(n)
	i.Op = op
	b.emit(i)
}

// alone makes an expression that is a statement.
func (b *builder) alone(n api.Node) {
	switch {
	case n.Kind == api.ECall:
		i := b.call(n)
		i.A = nothing
		b.emit(i)
	case n.Kind == api.EBuiltin && n.Text == "close":
		b.emit(code.Instr{Op: code.Close, A: b.operand(n.Kids[0])})
	case n.Kind == api.EBuiltin && n.Text == "panic":
		b.emit(code.Instr{Op: code.Panic, A: b.operand(n.Kids[0])})
	case n.Kind == api.EBuiltin && n.Text == "print":
		b.print(n.Kids)
	default:
		b.operand(n)
	}
}

// print evaluates all that is printed ahead of the first of it.
func (b *builder) print(args []api.Node) {
	for i, value := range b.operands(args) {
		b.emit(code.Instr{Op: code.Print, A: value, B: printed(args[i].Type)})
	}
}

// printed is how something of a type is printed.
func printed(t string) int {
	switch t {
	case "bool":
		return 1
	case "string":
		return 2
	}
	return 0
}
