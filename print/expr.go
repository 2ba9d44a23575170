package print

import (
	"strconv"

	"derrick/api"
)

func (p *printer) expr(n api.Node) {
	switch n.Kind {
	case api.EInt:
		p.WriteString(strconv.Itoa(n.Num))
	case api.EStr:
		p.quoted(n.Text)
	case api.EBool, api.EName:
		p.WriteString(n.Text)
	case api.ENil:
		p.WriteString("nil")
	case api.EUnary:
		p.WriteString("(" + n.Text)
		p.expr(part(n, 0))
		p.WriteByte(')')
	case api.EBinary:
		p.WriteByte('(')
		p.both(n, n.Text)
		p.WriteByte(')')
	case api.EBuiltin:
		p.builtin(n)
	case api.EFunc:
		p.WriteString("func")
		p.function(n)
	case api.ENew:
		p.WriteString("(&" + n.Text + "{")
		p.list(n.Kids, p.initial)
		p.WriteString("})")
	case api.EList:
		p.WriteString("([]")
		p.writtenType(part(n, 0))
		p.WriteByte('{')
		p.list(from(n, 1), p.expr)
		p.WriteString("})")
	default:
		p.primary(n)
	}
}

// quoted writes a text as a Str, whose other bytes stand for themselves.
func (p *printer) quoted(text string) {
	p.WriteByte('"')
	for i := range len(text) {
		switch text[i] {
		case '\n':
			p.WriteString(`\n`)
		case '"':
			p.WriteString(`\"`)
		case '\\':
			p.WriteString(`\\`)
		default:
			p.WriteByte(text[i])
		}
	}
	p.WriteByte('"')
}

func (p *printer) initial(n api.Node) {
	if n.Kind != api.NField {
		p.unknown()
		return
	}
	p.WriteString(n.Text + ": ")
	p.expr(part(n, 0))
}

// builtin writes a call of a word of the language. Of make and new the first argument is no expression.
func (p *printer) builtin(n api.Node) {
	p.WriteString(n.Text + "(")
	switch n.Text {
	case "make":
		p.writtenType(part(n, 0))
		if len(n.Kids) > 1 {
			p.WriteString(", ")
			p.expr(part(n, 1))
		}
	case "new":
		p.pointed(part(n, 0))
	default:
		p.list(n.Kids, p.expr)
	}
	p.WriteByte(')')
}

// pointed writes the name of the struct that a pointer's type points to.
func (p *printer) pointed(n api.Node) {
	if n.Kind != api.TPtr {
		p.unknown()
		return
	}
	p.WriteString(n.Text)
}

// primary writes an expression with a call, an index, a slice or a field behind it.
func (p *printer) primary(n api.Node) {
	switch n.Kind {
	case api.ECall:
		p.expr(part(n, 0))
		p.WriteByte('(')
		p.list(from(n, 1), p.expr)
		p.WriteByte(')')
	case api.EIndex:
		p.expr(part(n, 0))
		p.WriteByte('[')
		p.expr(part(n, 1))
		p.WriteByte(']')
	case api.ESlice:
		p.expr(part(n, 0))
		p.WriteByte('[')
		p.unlessNone("", part(n, 1), p.expr)
		p.WriteByte(':')
		p.unlessNone("", part(n, 2), p.expr)
		p.WriteByte(']')
	case api.ESel:
		p.expr(part(n, 0))
		p.WriteString("." + n.Text)
	default:
		p.unknown()
	}
}
