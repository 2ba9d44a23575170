package parse

import "derrick/api"

func (p *parser) ifStmt() api.Node {
	at := p.take().At
	condition := within(p, true, p.expr)
	then := p.block()
	other := none()
	if p.skip("else") {
		if p.is("if") {
			other = p.ifStmt()
		} else {
			other = p.block()
		}
	}
	return api.Node{Kind: api.SIf, At: at, Kids: []api.Node{condition, then, other}}
}

// breakable parses one of the statements that may have a label.
func (p *parser) breakable() api.Node {
	switch p.sign() {
	case "for":
		return p.forStmt()
	case "switch":
		return p.switchStmt()
	case "select":
		return p.selectStmt()
	}
	panic(p.broken("label"))
}

func (p *parser) forStmt() api.Node {
	at := p.take().At
	kids := within(p, true, p.forHead)
	return api.Node{Kind: api.SFor, At: at, Kids: append(kids, p.block())}
}

// forHead parses the first simple, the expression and the last simple, of which each may be none.
func (p *parser) forHead() []api.Node {
	if p.is("{") {
		return []api.Node{none(), none(), none()}
	}
	first, condition, last := none(), none(), none()
	if !p.is(";") {
		part, isSimple := p.forLead()
		if !isSimple {
			return []api.Node{none(), part, none()}
		}
		first = part
	}
	p.want("for", ";")
	if !p.is(";") {
		condition = p.expr()
	}
	p.want("for", ";")
	if !p.is("{") {
		last = p.simple()
	}
	return []api.Node{first, condition, last}
}

// forLead parses what a for's head begins with, and tells whether that is a simple: of what may be
// one or an expression the semicolon behind it tells.
func (p *parser) forLead() (api.Node, bool) {
	lead, s := p.shaped()
	if stmt, ok := p.acting(lead, s); ok {
		return stmt, true
	}
	if standsAlone(s) && p.is(";") {
		return alone(lead), true
	}
	return p.operationOf(lead, 1), false
}

func (p *parser) switchStmt() api.Node {
	at := p.take().At
	tag := none()
	if !p.is("{") {
		tag = within(p, true, p.expr)
	}
	return api.Node{Kind: api.SSwitch, At: at, Kids: append([]api.Node{tag}, p.clauses(p.clause)...)}
}

func (p *parser) selectStmt() api.Node {
	at := p.take().At
	return api.Node{Kind: api.SSelect, At: at, Kids: p.clauses(p.comm)}
}

// clauses parses what stands in the braces of a switch or select.
func (p *parser) clauses(clause func() api.Node) []api.Node {
	var clauses []api.Node
	p.want("clauses", "{")
	for !p.skip("}") {
		clauses = append(clauses, clause())
	}
	return clauses
}

func (p *parser) clause() api.Node {
	n := api.Node{Kind: api.SCase, Text: p.sign(), At: p.token().At}
	switch {
	case p.skip("case"):
		n.Kids = append(n.Kids, p.expr())
		for p.skip(",") {
			n.Kids = append(n.Kids, p.expr())
		}
	case !p.skip("default"):
		panic(p.broken("clause"))
	}
	n.Kids = append(n.Kids, p.clauseBlock())
	return n
}

// clauseBlock parses the colon of a clause and its statements.
func (p *parser) clauseBlock() api.Node {
	at := p.want("clause", ":").At
	return api.Node{Kind: api.SBlock, At: at, Kids: p.stmts()}
}

func (p *parser) comm() api.Node {
	n := api.Node{Kind: api.SComm, Text: "default", At: p.token().At}
	switch {
	case p.skip("case"):
		n.Text, n.Kids = p.commHead()
	case !p.skip("default"):
		panic(p.broken("comm"))
	}
	n.Kids = append(n.Kids, p.clauseBlock())
	return n
}

// commHead parses what a comm receives or sends, and tells which.
func (p *parser) commHead() (string, []api.Node) {
	if p.skip("<-") {
		return "recv", []api.Node{p.unary()}
	}
	lead, s := p.primary()
	if s == lone && p.skip(":=") {
		p.want("comm", "<-")
		name := api.Node{Kind: api.NParam, Text: lead.Text, At: lead.At}
		return "recv", []api.Node{name, p.unary()}
	}
	p.want("comm", "<-")
	return "send", []api.Node{lead, p.expr()}
}
