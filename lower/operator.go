package lower

import (
	"strings"

	"derrick/api"
	"derrick/code"
)

func unaryOp(operator string) int {
	switch operator {
	case "-":
		return code.Neg
	case "!":
		return code.Not
	}
	return code.Recv
}

// operation is the instruction of a binary operator, for operands of a type. The machines hold things against each
// other one way round: the other way the operands change places, once both are evaluated.
func (b *builder) operation(operator, of string, left, right int) code.Instr {
	op := 0
	switch operator {
	case ">":
		left, right = right, left
		fallthrough
	case "<":
		op = code.Lt
	case ">=":
		left, right = right, left
		fallthrough
	case "<=":
		op = code.Le
	case "==":
		op = code.Eq
	case "!=":
		return b.unlike(of, left, right)
	default:
		op = numberOp(operator)
	}
	if of == "string" {
		op = textOp(op)
	}
	return code.Instr{Op: op, B: left, C: right}
}

// unlike is the instruction that tells whether operands of a type aren't the same. Of texts the machines tell only whether they are.
func (b *builder) unlike(of string, left, right int) code.Instr {
	if of != "string" {
		return code.Instr{Op: code.Ne, B: left, C: right}
	}
	same := b.temp(false)
	b.emit(code.Instr{Op: code.TextEq, A: same, B: left, C: right})
	return code.Instr{Op: code.Not, B: same}
}

func numberOp(operator string) int {
	switch operator {
	case "+":
		return code.Add
	case "-":
		return code.Sub
	case "*":
		return code.Mul
	case "/":
		return code.Div
	}
	return code.Mod
}

// textOp is what an instruction for numbers is for texts.
func textOp(op int) int {
	switch op {
	case code.Add:
		return code.Join
	case code.Lt:
		return code.TextLt
	case code.Le:
		return code.TextLe
	}
	return code.TextEq
}

// builtin is the instruction of a builtin that has a value.
func (b *builder) builtin(n api.Node) code.Instr {
	switch n.Text {
	case "append":
		to := b.operand(n.Kids[0])
		return code.Instr{Op: code.Append, B: to, C: flag(itemsAreReferences(n.Type)), List: b.operands(n.Kids[1:])}
	case "make":
		return b.making(n)
	case "new":
		return code.Instr{Op: code.NewObject, B: b.structNumber(n.Kids[0].Text)}
	case "recover":
		return code.Instr{Op: code.Recover}
	}
	return code.Instr{Op: sizeOp(n.Text, n.Kids[0].Type), B: b.operand(n.Kids[0])}
}

func (b *builder) making(n api.Node) code.Instr {
	i := code.Instr{Op: code.MakeSlice, C: flag(itemsAreReferences(n.Type))}
	if isChannel(n.Type) {
		i.Op = code.MakeChan
	}
	if len(n.Kids) > 1 {
		i.B = b.operand(n.Kids[1])
	} else {
		i.B = b.zero(false)
	}
	return i
}

func isChannel(t string) bool {
	return strings.HasPrefix(t, "chan ")
}

// sizeOp is the instruction of len or cap, of something of a type.
func sizeOp(word, of string) int {
	isLen := word == "len"
	switch {
	case of == "string":
		return code.TextLen
	case isChannel(of) && isLen:
		return code.ChanLen
	case isChannel(of):
		return code.ChanCap
	case isLen:
		return code.SliceLen
	}
	return code.SliceCap
}
