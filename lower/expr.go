package lower

import (
	"slices"

	"derrick/api"
	"derrick/code"
	"derrick/types"
)

// anywhere is wanted where it is all the same in which register a value stands.
const anywhere = -1

// operand evaluates an expression. A variable that has no box is its own operand: whoever else is called meanwhile can't write it.
func (b *builder) operand(n api.Node) int {
	return b.expr(n, anywhere)
}

func (b *builder) operands(list []api.Node) []int {
	var values []int
	for _, n := range list {
		values = append(values, b.operand(n))
	}
	return values
}

// expr evaluates an expression, to the register that is wanted, which it answers. That one is written when nothing
// of the expression is to be read any more, for it may be a variable that the expression names.
func (b *builder) expr(n api.Node, want int) int {
	switch {
	case n.Kind == api.ENil || n.Kind == api.EStr && n.Text == "":
		return b.moved(b.zero(true), want)
	case n.Kind == api.EName && b.namePlace(n.Ref).register() != anywhere:
		return b.moved(b.home(n.Ref), want)
	case n.Kind == api.EBinary && (n.Text == "&&" || n.Text == "||"):
		return b.logical(n, want)
	case n.Kind == api.ENew:
		return b.object(n, want)
	}
	m := b.mark()
	i := b.instr(n)
	b.release(m)
	i.A = want
	if want == anywhere {
		i.A = b.temp(types.Reference(n.Type))
	}
	b.emit(i)
	return i.A
}

// instr evaluates an expression's operands, and is the instruction that makes its value of them, but for where to.
func (b *builder) instr(n api.Node) code.Instr {
	switch n.Kind {
	case api.EInt:
		return code.Instr{Op: code.Const, B: n.Num}
	case api.EBool:
		return code.Instr{Op: code.Const, B: flag(n.Text == "true")}
	case api.EStr:
		return code.Instr{Op: code.Text, B: b.textNumber(n.Text)}
	case api.EUnary:
		return code.Instr{Op: unaryOp(n.Text), B: b.operand(n.Kids[0])}
	case api.EBinary:
		left, right := b.operand(n.Kids[0]), b.operand(n.Kids[1])
		return b.operation(n.Text, n.Kids[0].Type, left, right)
	case api.ECall:
		return b.call(n)
	case api.EBuiltin:
		return b.builtin(n)
	case api.ESlice:
		return b.slicing(n)
	case api.EFunc:
		return b.closure(n.Ref)
	case api.EList:
		return code.Instr{Op: code.List, B: flag(itemsAreReferences(n.Type)), List: b.operands(n.Kids[1:])}
	}
	return b.place(n).read()
}

// flag is a bool as a number.
func flag(holds bool) int {
	if holds {
		return 1
	}
	return 0
}

// itemsAreReferences is asked of a slice's or channel's type.
func itemsAreReferences(t string) bool {
	item, _ := types.Elem(t)
	return types.Reference(item)
}

func (b *builder) call(n api.Node) code.Instr {
	return code.Instr{Op: code.Call, B: b.operand(n.Kids[0]), List: b.operands(n.Kids[1:])}
}

func (b *builder) slicing(n api.Node) code.Instr {
	op := code.Slice
	if n.Type == "string" {
		op = code.SubText
	}
	return code.Instr{Op: op, B: b.operand(n.Kids[0]), C: b.optional(n.Kids[1]), D: b.optional(n.Kids[2])}
}

// optional evaluates an expression that may lack.
func (b *builder) optional(n api.Node) int {
	if n.Kind == api.NNone {
		return nothing
	}
	return b.operand(n)
}

// closure has the boxes of what the function captures: all of them are this function's, or captured by it too.
func (b *builder) closure(number int) code.Instr {
	i := code.Instr{Op: code.Closure, B: number}
	for _, v := range b.captured[number-1] {
		i.List = append(i.List, b.home(v))
	}
	return i
}

// logical evaluates its second operand only where the first doesn't tell.
func (b *builder) logical(n api.Node, want int) int {
	m := b.mark()
	first := b.operand(n.Kids[0])
	b.release(m)
	value := b.moved(first, b.temp(false))
	m = b.mark()
	goesOn := value
	if n.Text == "||" {
		goesOn = b.temp(false)
		b.emit(code.Instr{Op: code.Not, A: goesOn, B: value})
	}
	end := b.label()
	b.emit(code.Instr{Op: code.Unless, A: end, B: goesOn})
	b.expr(n.Kids[1], value)
	b.here(end)
	b.release(m)
	return b.moved(value, want)
}

// object makes an object when its fields' values are evaluated. They are still read when it is there, so it
// can't be made at once where one of them stands.
func (b *builder) object(n api.Node, want int) int {
	object := want
	if want == anywhere {
		object = b.temp(true)
	}
	m := b.mark()
	var values []int
	for _, init := range n.Kids {
		values = append(values, b.operand(init.Kids[0]))
	}
	if slices.Contains(values, object) {
		object = b.temp(true)
	}
	b.emit(code.Instr{Op: code.NewObject, A: object, B: b.structNumber(n.Text)})
	for k, init := range n.Kids {
		b.emit(code.Instr{Op: code.SetField, A: object, B: b.fieldNumber(n.Type, init.Text), C: values[k]})
	}
	b.release(m)
	if want == anywhere {
		return object
	}
	return b.moved(object, want)
}
