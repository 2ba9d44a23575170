package check

import (
	"slices"

	"derrick/api"
	"derrick/types"
)

// stmts goes through statements, and tells whether they end.
func (c *checker) stmts(list []api.Node) bool {
	ends := false
	for i := range list {
		ends = c.stmt(&list[i])
	}
	return ends
}

// block goes through statements in a scope of their own, and tells whether they end.
func (c *checker) block(list []api.Node) bool {
	c.names.enter()
	ends := c.stmts(list)
	c.names.leave()
	return ends
}

// stmt goes through a statement, or none where one may lack, and tells whether it ends.
func (c *checker) stmt(n *api.Node) bool {
	switch n.Kind {
	case api.SBlock:
		return c.block(n.Kids)
	case api.SIf:
		return c.branch(n.Kids)
	case api.SFor, api.SSwitch, api.SSelect:
		return c.breakable(n, "")
	case api.SLabel:
		return c.labelled(n)
	case api.SReturn:
		c.returns(&n.Kids[0])
		return true
	case api.SExpr:
		return c.alone(&n.Kids[0])
	case api.SBreak, api.SContinue:
		c.jump(n)
	case api.SFall:
		// A clause that may fall through takes its last statement away ahead of this.
		must(false, errJump, "fallthrough")
	default:
		c.simple(n)
	}
	return false
}

// simple goes through statements that have no blocks and go nowhere.
func (c *checker) simple(n *api.Node) {
	switch n.Kind {
	case api.SDefine:
		text := c.expr(&n.Kids[0])
		must(types.Valid(text), errStmt, "define")
		n.Ref = c.newVar(n.Text, text)
	case api.SVar:
		c.varStmt(n)
	case api.SAssign:
		c.assign(n)
	case api.SStep:
		must(c.target(&n.Kids[0]) == "int", errStmt, "step")
	case api.SSend:
		c.send(n.Kids)
	case api.SGo, api.SDefer:
		must(n.Kids[0].Kind == api.ECall, errStmt, "go and defer")
		c.expr(&n.Kids[0])
	}
}

func (c *checker) varStmt(n *api.Node) {
	text := c.written(n.Kids[0])
	if value := &n.Kids[1]; value.Kind != api.NNone {
		must(types.Fits(c.expr(value), text), errStmt, "var")
	}
	n.Ref = c.newVar(n.Text, text)
}

func (c *checker) assign(n *api.Node) {
	to, from := c.target(&n.Kids[0]), c.expr(&n.Kids[1])
	holds := false
	switch n.Text {
	case "=":
		holds = types.Fits(from, to)
	case "+=":
		holds = areBoth(from, to, "int", "string")
	default:
		holds = areBoth(from, to, "int")
	}
	must(holds, errStmt, n.Text)
}

// target goes through what is assigned to, of which layer 2 knows that it is a name, an index or a field.
func (c *checker) target(n *api.Node) string {
	text := c.expr(n)
	switch n.Kind {
	case api.EName:
		must(n.Ref > 0, errStmt, "target")
	case api.EIndex:
		must(n.Kids[0].Type != "string", errStmt, "target")
	}
	return text
}

// send goes through a channel and what is sent to it.
func (c *checker) send(kids []api.Node) {
	item, ok := itemOf(c.expr(&kids[0]), channel)
	must(ok, errStmt, "send")
	must(types.Fits(c.expr(&kids[1]), item), errStmt, "send")
}

func (c *checker) returns(value *api.Node) {
	if value.Kind == api.NNone {
		must(c.inside.result == "", errStmt, "return")
		return
	}
	must(c.inside.result != "" && types.Fits(c.expr(value), c.inside.result), errStmt, "return")
}

// alone goes through an expression that is a statement, and tells whether it ends.
func (c *checker) alone(n *api.Node) bool {
	c.expr(n)
	if n.Kind != api.EBuiltin {
		return false
	}
	must(slices.Contains([]string{"close", "panic", "print", "recover"}, n.Text), errStmt, n.Text)
	return n.Text == "panic"
}
