package lower

import (
	"slices"

	"derrick/api"
	"derrick/code"
	"derrick/types"
)

// enclosing is a statement that a break, or a continue, within it may be meant for.
type enclosing struct {
	name string // its label in the source; empty: none
	next int    // the label at which a continue goes on; or nothing
	end  int    // the label at which a break does
}

// leave makes a break or continue: it is meant for the innermost statement that takes it.
func (b *builder) leave(n api.Node) {
	for _, t := range slices.Backward(b.around) {
		if n.Text != "" && n.Text != t.name {
			continue
		}
		to := t.end
		if n.Kind == api.SContinue {
			to = t.next
		}
		if to != nothing {
			b.jump(to)
			return
		}
	}
}

// breakable makes a for, switch or select.
func (b *builder) breakable(n api.Node, name string) {
	t := enclosing{name: name, next: nothing, end: b.label()}
	if n.Kind == api.SFor {
		t.next = b.label()
	}
	b.around = append(b.around, t)
	switch n.Kind {
	case api.SFor:
		b.loop(n.Kids, t)
	case api.SSwitch:
		b.choice(n.Kids[0], n.Kids[1:], t.end)
	case api.SSelect:
		b.selection(n.Kids, t.end)
	}
	b.around = b.around[:len(b.around)-1]
	b.here(t.end)
}

// unless goes on at a label, if a condition is false.
func (b *builder) unless(condition api.Node, label int) {
	m := b.mark()
	b.emit(code.Instr{Op: code.Unless, A: label, B: b.operand(condition)})
	b.release(m)
}

func (b *builder) branch(kids []api.Node) {
	condition, then, other := kids[0], kids[1], kids[2]
	otherwise := b.label()
	b.unless(condition, otherwise)
	b.stmt(then)
	if other.Kind == api.NNone {
		b.here(otherwise)
		return
	}
	end := b.label()
	b.jump(end)
	b.here(otherwise)
	b.stmt(other)
	b.here(end)
}

func (b *builder) loop(kids []api.Node, t enclosing) {
	first, condition, last, block := kids[0], kids[1], kids[2], kids[3]
	b.stmt(first)
	b.unmade(last)
	round := b.label()
	b.here(round)
	b.emit(code.Instr{Op: code.Yield})
	if condition.Kind != api.NNone {
		b.unless(condition, t.end)
	}
	b.stmt(block)
	b.here(t.next)
	b.stmt(last)
	b.jump(round)
}

// unmade clears the register of a variable that a for's last part declares: in the first round its block sees it
// ahead of its declaration, and what an earlier run of the for left there is none of it.
func (b *builder) unmade(last api.Node) {
	if last.Kind == api.SDefine {
		home := b.home(last.Ref)
		b.moved(b.zero(b.refs[home]), home)
	}
}

// choice makes a switch: first the clauses' exprs, each of which leads to its clause, then the clauses' statements.
func (b *builder) choice(tag api.Node, clauses []api.Node, end int) {
	value := b.optional(tag)
	otherwise := end
	starts := make([]int, len(clauses))
	for i, clause := range clauses {
		starts[i] = b.label()
		if clause.Text == "default" {
			otherwise = starts[i]
		}
		for _, n := range clause.Kids[:len(clause.Kids)-1] {
			b.match(tag.Type, value, n, starts[i])
		}
	}
	b.jump(otherwise)
	for i, clause := range clauses {
		b.here(starts[i])
		block := clause.Kids[len(clause.Kids)-1]
		b.stmt(block)
		if !fallsThrough(block.Kids) {
			b.jump(end)
		}
	}
}

// match goes on at a label, if an expr is equal to the value of a type; without one, if it is true.
func (b *builder) match(of string, value int, n api.Node, label int) {
	m := b.mark()
	other := b.operand(n)
	i := code.Instr{Op: code.Not, B: other}
	if value != nothing {
		i = b.unlike(of, value, other)
	}
	i.A = b.temp(false)
	b.emit(i)
	b.emit(code.Instr{Op: code.Unless, A: label, B: i.A})
	b.release(m)
}

// fallsThrough tells whether a clause goes on with the next one's statements, which stand at once behind it.
func fallsThrough(list []api.Node) bool {
	return len(list) > 0 && list[len(list)-1].Kind == api.SFall
}

// selection makes a select: what its comms need, the choice among them, then their statements.
func (b *builder) selection(comms []api.Node, end int) {
	choice := code.Instr{Op: code.Select, B: nothing}
	starts, values := make([]int, len(comms)), make([]int, len(comms))
	for i, comm := range comms {
		starts[i] = b.label()
		if comm.Text == "default" {
			choice.B = starts[i]
			continue
		}
		kind, channel, value := b.comm(comm)
		values[i] = value
		choice.List = append(choice.List, kind, channel, value, starts[i])
	}
	b.emit(choice)
	for i, comm := range comms {
		b.here(starts[i])
		if name := comm.Kids[0]; name.Kind == api.NParam && b.variable(name.Ref).Boxed {
			b.emit(code.Instr{Op: code.MakeBox, A: b.home(name.Ref), B: values[i]})
		}
		b.stmt(comm.Kids[len(comm.Kids)-1])
		b.jump(end)
	}
}

// comm evaluates what a comm needs: the channel, and what is sent, or the register to which what is received goes.
func (b *builder) comm(n api.Node) (kind, channel, value int) {
	if n.Text == "send" {
		return 2, b.operand(n.Kids[0]), b.operand(n.Kids[1])
	}
	from := n.Kids[len(n.Kids)-2]
	channel = b.operand(from)
	if name := n.Kids[0]; name.Kind == api.NParam && !b.variable(name.Ref).Boxed {
		return 1, channel, b.home(name.Ref)
	}
	item, _ := types.Elem(from.Type)
	return 1, channel, b.temp(types.Reference(item))
}
