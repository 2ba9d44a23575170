package print

import "derrick/api"

func (p *printer) ifStmt(n api.Node) {
	p.WriteString("if ")
	p.expr(part(n, 0))
	p.WriteByte(' ')
	p.block(part(n, 1))
	p.unlessNone(" else ", part(n, 2), p.stmt)
}

func (p *printer) forStmt(n api.Node) {
	p.WriteString("for")
	if isNone(part(n, 0)) && isNone(part(n, 2)) {
		p.unlessNone(" ", part(n, 1), p.expr)
	} else {
		p.forParts(n)
	}
	p.WriteByte(' ')
	p.block(part(n, 3))
}

// forParts writes a head of three parts. The last one's blank goes with it, so that without it one
// blank stands ahead of the block, not two.
func (p *printer) forParts(n api.Node) {
	p.WriteByte(' ')
	p.unlessNone("", part(n, 0), p.stmt)
	p.WriteString("; ")
	p.unlessNone("", part(n, 1), p.expr)
	p.WriteByte(';')
	p.unlessNone(" ", part(n, 2), p.stmt)
}

func (p *printer) switchStmt(n api.Node) {
	p.WriteString("switch")
	p.unlessNone(" ", part(n, 0), p.expr)
	p.clauses(from(n, 1), p.clause)
}

func (p *printer) selectStmt(n api.Node) {
	p.WriteString("select")
	p.clauses(n.Kids, p.comm)
}

// clauses writes the braces of a switch or select, and what they hold.
func (p *printer) clauses(clauses []api.Node, write func(api.Node)) {
	p.WriteString(" {\n")
	for _, clause := range clauses {
		write(clause)
	}
	p.tabs()
	p.WriteByte('}')
}

func (p *printer) clause(n api.Node) {
	switch {
	case n.Kind == api.SCase && n.Text == "case":
		p.tabs()
		p.WriteString("case ")
		p.caseExprs(untilLast(n))
	case n.Kind == api.SCase && n.Text == "default":
		p.tabs()
		p.WriteString("default")
	default:
		p.unknown()
		return
	}
	p.clauseStmts(last(n))
}

// caseExprs writes a case's expressions, of which there must be one.
func (p *printer) caseExprs(exprs []api.Node) {
	if len(exprs) == 0 {
		p.unknown()
	}
	p.list(exprs, p.expr)
}

func (p *printer) comm(n api.Node) {
	switch {
	case n.Kind == api.SComm && n.Text == "recv":
		p.receiving(n)
	case n.Kind == api.SComm && n.Text == "send":
		p.tabs()
		p.WriteString("case ")
		p.both(n, "<-")
		p.clauseStmts(part(n, 2))
	case n.Kind == api.SComm && n.Text == "default":
		p.tabs()
		p.WriteString("default")
		p.clauseStmts(part(n, 0))
	default:
		p.unknown()
	}
}

// receiving writes a comm that receives. Only a name ahead of its expression is an NParam.
func (p *printer) receiving(n api.Node) {
	p.tabs()
	p.WriteString("case ")
	expr := 0
	if name := part(n, 0); name.Kind == api.NParam {
		p.WriteString(name.Text + " := ")
		expr = 1
	}
	p.WriteString("<-")
	p.expr(part(n, expr))
	p.clauseStmts(part(n, expr+1))
}

// clauseStmts writes the colon of a clause and its statements, which have no braces.
func (p *printer) clauseStmts(n api.Node) {
	p.WriteString(":\n")
	if n.Kind != api.SBlock {
		p.unknown()
		return
	}
	p.lines(n.Kids, p.stmt)
}
