package check

import (
	"slices"

	"derrick/api"
	"derrick/types"
)

// enclosing is a statement that a break, or a continue, within it may be meant for.
type enclosing struct {
	label string // empty: none
	loops bool
	left  bool // a break leads behind it
}

// takes tells whether a break or continue that stands in the statement may be meant for it.
func (t enclosing) takes(n *api.Node) bool {
	return (n.Text == "" || n.Text == t.label) && (t.loops || n.Kind == api.SBreak)
}

// jump goes through a break or continue: it is meant for the innermost statement that takes it.
func (c *checker) jump(n *api.Node) {
	for i, t := range slices.Backward(c.inside.around) {
		if t.takes(n) {
			c.inside.around[i].left = t.left || n.Kind == api.SBreak
			return
		}
	}
	must(false, errJump, n.Text)
}

func (c *checker) labelled(n *api.Node) bool {
	taken := slices.ContainsFunc(c.inside.around, func(t enclosing) bool { return t.label == n.Text })
	must(!taken, errJump, n.Text)
	return c.breakable(&n.Kids[0], n.Text)
}

// breakable goes through a for, switch or select, and tells whether it ends.
func (c *checker) breakable(n *api.Node, label string) bool {
	c.inside.around = append(c.inside.around, enclosing{label: label, loops: n.Kind == api.SFor})
	ends := false
	switch n.Kind {
	case api.SFor:
		ends = c.loop(n.Kids)
	case api.SSwitch:
		ends = c.choice(n.Kids)
	case api.SSelect:
		ends = c.selection(n.Kids)
	}
	last := len(c.inside.around) - 1
	left := c.inside.around[last].left
	c.inside.around = c.inside.around[:last]
	return ends && !left
}

func (c *checker) condition(n *api.Node) {
	must(c.expr(n) == "bool", errStmt, "condition")
}

// branch goes through an if's parts. Its else is none, an if or a block, and none doesn't end.
func (c *checker) branch(kids []api.Node) bool {
	c.condition(&kids[0])
	then := c.stmt(&kids[1])
	other := c.stmt(&kids[2])
	return then && other
}

// loop goes through a for's parts, and tells whether it ends if no break leads behind it.
func (c *checker) loop(kids []api.Node) bool {
	c.names.enter()
	c.stmt(&kids[0])
	forever := kids[1].Kind == api.NNone
	if !forever {
		c.condition(&kids[1])
	}
	c.stmt(&kids[2])
	c.stmt(&kids[3])
	c.names.leave()
	return forever
}

// choice goes through a switch's parts, and tells whether it ends if no break leads behind it.
func (c *checker) choice(kids []api.Node) bool {
	compared := "bool"
	if kids[0].Kind != api.NNone {
		compared = c.expr(&kids[0])
		must(types.Equals(compared, compared), errStmt, "switch")
	}
	clauses := kids[1:]
	ends := oneDefault(clauses)
	for i := range clauses {
		isLast := i == len(clauses)-1
		ends = c.clause(clauses[i].Kids, compared, isLast) && ends
	}
	return ends
}

// oneDefault tells whether one of the clauses or comms is the default, of which there may not be two.
func oneDefault(clauses []api.Node) bool {
	defaults := 0
	for _, clause := range clauses {
		if clause.Text == "default" {
			defaults++
		}
	}
	must(defaults <= 1, errStmt, "default")
	return defaults == 1
}

// clause goes through a switch's clause, and tells whether it ends or falls through.
func (c *checker) clause(kids []api.Node, compared string, isLast bool) bool {
	last := len(kids) - 1
	for i := range kids[:last] {
		must(types.Equals(compared, c.expr(&kids[i])), errStmt, "case")
	}
	stmts := kids[last].Kids
	end := len(stmts) - 1
	if !isLast && end >= 0 && stmts[end].Kind == api.SFall {
		c.block(stmts[:end])
		return true
	}
	return c.block(stmts)
}

// selection goes through a select's comms, and tells whether it ends if no break leads behind it.
func (c *checker) selection(comms []api.Node) bool {
	oneDefault(comms)
	ends := true
	for i := range comms {
		c.names.enter()
		c.commHead(&comms[i])
		block := comms[i].Kids[len(comms[i].Kids)-1]
		ends = c.stmts(block.Kids) && ends
		c.names.leave()
	}
	return ends
}

// commHead goes through what a comm receives or sends.
func (c *checker) commHead(n *api.Node) {
	switch n.Text {
	case "send":
		c.send(n.Kids)
	case "recv":
		from := len(n.Kids) - 2
		item, ok := itemOf(c.expr(&n.Kids[from]), channel)
		must(ok, errStmt, "recv")
		if from > 0 {
			n.Kids[0].Ref = c.newVar(n.Kids[0].Text, item)
		}
	}
}
