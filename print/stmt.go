package print

import "derrick/api"

func (p *printer) block(n api.Node) {
	if n.Kind != api.SBlock {
		p.unknown()
		return
	}
	p.WriteString("{\n")
	p.lines(n.Kids, p.stmt)
	p.tabs()
	p.WriteByte('}')
}

func (p *printer) stmt(n api.Node) {
	switch n.Kind {
	case api.SVar:
		p.WriteString("var ")
		p.typed(n)
		p.unlessNone(" = ", part(n, 1), p.expr)
	case api.SBlock:
		p.block(n)
	case api.SIf:
		p.ifStmt(n)
	case api.SFor:
		p.forStmt(n)
	case api.SSwitch:
		p.switchStmt(n)
	case api.SSelect:
		p.selectStmt(n)
	case api.SBreak:
		p.jump("break", n)
	case api.SContinue:
		p.jump("continue", n)
	case api.SFall:
		p.WriteString("fallthrough")
	case api.SReturn:
		p.WriteString("return")
		p.unlessNone(" ", part(n, 0), p.expr)
	case api.SGo:
		p.WriteString("go ")
		p.expr(part(n, 0))
	case api.SDefer:
		p.WriteString("defer ")
		p.expr(part(n, 0))
	case api.SLabel:
		p.WriteString(n.Text + ": ")
		p.stmt(part(n, 0))
	default:
		p.simple(n)
	}
}

// jump writes a break or a continue with its label.
func (p *printer) jump(word string, n api.Node) {
	p.WriteString(word)
	if n.Text != "" {
		p.WriteString(" " + n.Text)
	}
}

// simple writes a statement of the kinds that may also stand in the head of a for.
func (p *printer) simple(n api.Node) {
	switch n.Kind {
	case api.SDefine:
		p.WriteString(n.Text + " := ")
		p.expr(part(n, 0))
	case api.SAssign:
		p.both(n, n.Text)
	case api.SStep:
		p.expr(part(n, 0))
		p.WriteString(n.Text)
	case api.SSend:
		p.both(n, "<-")
	case api.SExpr:
		p.exprStmt(part(n, 0))
	default:
		p.unknown()
	}
}

// both writes a node's two expressions with a sign between.
func (p *printer) both(n api.Node, sign string) {
	p.expr(part(n, 0))
	p.WriteString(" " + sign + " ")
	p.expr(part(n, 1))
}

// exprStmt writes an expression that is a statement: a receive has no parentheses there, for with
// them it would be no statement when it is parsed again.
func (p *printer) exprStmt(n api.Node) {
	if n.Kind == api.EUnary && n.Text == "<-" {
		p.WriteString("<-")
		p.expr(part(n, 0))
		return
	}
	p.expr(n)
}
