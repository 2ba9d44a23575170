package parse

import "derrick/api"

func (p *parser) block() api.Node {
	at := p.want("block", "{").At
	stmts := p.stmts()
	p.want("block", "}")
	return api.Node{Kind: api.SBlock, At: at, Kids: stmts}
}

func (p *parser) stmts() []api.Node {
	var stmts []api.Node
	for {
		if !p.behindStmt() {
			stmts = append(stmts, p.stmt())
		}
		if !p.skip(";") {
			return stmts
		}
	}
}

// behindStmt tells whether what stands here may only stand behind a statement, or an empty one.
func (p *parser) behindStmt() bool {
	return p.is(";", "}", "case", "default")
}

func (p *parser) stmt() api.Node {
	at := p.token().At
	switch p.sign() {
	case "var":
		return p.varStmt()
	case "{":
		return p.block()
	case "if":
		return p.ifStmt()
	case "for", "switch", "select":
		return p.breakable()
	case "break":
		return p.jump(api.SBreak)
	case "continue":
		return p.jump(api.SContinue)
	case "fallthrough":
		p.take()
		return api.Node{Kind: api.SFall, At: at}
	case "return":
		return p.returnStmt()
	case "go":
		return p.callStmt(api.SGo)
	case "defer":
		return p.callStmt(api.SDefer)
	}
	if p.labels() {
		return p.labelled()
	}
	return p.simple()
}

func (p *parser) varStmt() api.Node {
	at := p.take().At
	n := p.named(api.SVar)
	n.At = at
	value := none()
	if p.skip("=") {
		value = p.expr()
	}
	n.Kids = append(n.Kids, value)
	return n
}

// jump parses a break or a continue with its label.
func (p *parser) jump(kind int) api.Node {
	n := api.Node{Kind: kind, At: p.take().At}
	if p.token().Kind == api.Name {
		n.Text = p.take().Text
	}
	return n
}

func (p *parser) returnStmt() api.Node {
	at := p.take().At
	value := none()
	if !p.behindStmt() {
		value = p.expr()
	}
	return api.Node{Kind: api.SReturn, At: at, Kids: []api.Node{value}}
}

// callStmt parses a go or a defer with its call.
func (p *parser) callStmt(kind int) api.Node {
	at := p.take().At
	call, s := p.primary()
	if s != called {
		panic(p.broken("call"))
	}
	return api.Node{Kind: kind, At: at, Kids: []api.Node{call}}
}

// labels tells whether a label stands here. A name has a token behind it, for the End is last.
func (p *parser) labels() bool {
	if p.token().Kind != api.Name {
		return false
	}
	next := p.tokens[p.at+1]
	return next.Kind == api.Mark && next.Text == ":"
}

func (p *parser) labelled() api.Node {
	label := p.take()
	p.want("label", ":")
	return api.Node{Kind: api.SLabel, Text: label.Text, At: label.At, Kids: []api.Node{p.breakable()}}
}

func (p *parser) simple() api.Node {
	if p.is("-", "!") {
		panic(p.broken("simple"))
	}
	lead, s := p.shaped()
	if stmt, ok := p.acting(lead, s); ok {
		return stmt
	}
	if !standsAlone(s) {
		panic(p.broken("simple"))
	}
	return alone(lead)
}

// acting parses the rest of a simple statement behind the unary with which it begins, if what stands here makes it one.
func (p *parser) acting(lead api.Node, s shape) (api.Node, bool) {
	t := p.token()
	n := api.Node{Text: t.Text, At: t.At, Kids: []api.Node{lead}}
	isTarget := s == lone || s == member
	switch {
	case s == lone && p.skip(":="):
		return api.Node{Kind: api.SDefine, Text: lead.Text, At: lead.At, Kids: []api.Node{p.expr()}}, true
	case isTarget && p.is("=", "+=", "-=", "*="):
		p.take()
		n.Kind = api.SAssign
		n.Kids = append(n.Kids, p.expr())
	case isTarget && p.is("++", "--"):
		p.take()
		n.Kind = api.SStep
	case s >= plain && p.skip("<-"):
		n.Kind, n.Text = api.SSend, ""
		n.Kids = append(n.Kids, p.expr())
	default:
		return api.Node{}, false
	}
	return n, true
}

// standsAlone tells whether a unary of the shape is a statement with nothing behind it.
func standsAlone(s shape) bool {
	return s == called || s == received
}

func alone(lead api.Node) api.Node {
	return api.Node{Kind: api.SExpr, At: lead.At, Kids: []api.Node{lead}}
}
