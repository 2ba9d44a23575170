package parse

import "derrick/api"

// A shape is what a statement may be told from, of the unary with which it begins: the tree doesn't
// say it, for parentheses leave no trace there.
type shape int

const (
	computed shape = iota // - or ! and its operand: no statement begins so
	received              // <- and its operand
	plain                 // a primary that is none of the following
	lone                  // a name alone
	member                // ends with an index or a field
	called                // ends with a call, or is a builtin call
)

func (p *parser) expr() api.Node {
	return p.operation(1)
}

// operation parses a unary, and what is bound to it by operators that are at least so strong.
func (p *parser) operation(least int) api.Node {
	return p.operationOf(p.unary(), least)
}

func (p *parser) operationOf(left api.Node, least int) api.Node {
	for strength(p.sign()) >= least {
		operator := p.take()
		right := p.operation(strength(operator.Text) + 1)
		left = api.Node{Kind: api.EBinary, Text: operator.Text, At: operator.At, Kids: []api.Node{left, right}}
	}
	return left
}

// strength tells how strongly a binary operator binds; 0 of what is none.
func strength(sign string) int {
	switch sign {
	case "||":
		return 1
	case "&&":
		return 2
	case "==", "!=", "<", "<=", ">", ">=":
		return 3
	case "+", "-":
		return 4
	case "*", "/", "%":
		return 5
	}
	return 0
}

func (p *parser) unary() api.Node {
	n, _ := p.shaped()
	return n
}

// shaped parses a unary, and tells its shape.
func (p *parser) shaped() (api.Node, shape) {
	if !p.is("-", "!", "<-") {
		return p.primary()
	}
	operator := p.take()
	n := api.Node{Kind: api.EUnary, Text: operator.Text, At: operator.At, Kids: []api.Node{p.unary()}}
	if operator.Text == "<-" {
		return n, received
	}
	return n, computed
}

func (p *parser) primary() (api.Node, shape) {
	n, s := p.operand()
	for {
		at := p.token().At
		switch {
		case p.skip("("):
			n = api.Node{Kind: api.ECall, At: at, Kids: append([]api.Node{n}, within(p, false, p.arguments)...)}
			s = called
		case p.skip("["):
			n, s = p.bracketed(n, at)
		case p.skip("."):
			n = api.Node{Kind: api.ESel, Text: p.wantName("primary").Text, At: at, Kids: []api.Node{n}}
			s = member
		default:
			return n, s
		}
	}
}

func (p *parser) arguments() []api.Node {
	return p.listed(p.expr)
}

// bracketed parses what stands behind a primary's bracket: an index, or a slice's ends.
func (p *parser) bracketed(of api.Node, at int) (api.Node, shape) {
	from, to := none(), none()
	if !p.is(":") {
		from = within(p, false, p.expr)
		if p.skip("]") {
			return api.Node{Kind: api.EIndex, At: at, Kids: []api.Node{of, from}}, member
		}
	}
	p.want("primary", ":")
	if !p.is("]") {
		to = within(p, false, p.expr)
	}
	p.want("primary", "]")
	return api.Node{Kind: api.ESlice, At: at, Kids: []api.Node{of, from, to}}, plain
}

func (p *parser) operand() (api.Node, shape) {
	t := p.token()
	switch t.Kind {
	case api.Int:
		p.take()
		return api.Node{Kind: api.EInt, Num: t.Num, At: t.At}, plain
	case api.Str:
		p.take()
		return api.Node{Kind: api.EStr, Text: t.Text, At: t.At}, plain
	case api.Name:
		p.take()
		return api.Node{Kind: api.EName, Text: t.Text, At: t.At}, lone
	case api.Word:
		return p.wordOperand()
	}
	return p.markOperand(), plain
}

func (p *parser) wordOperand() (api.Node, shape) {
	t := p.token()
	switch t.Text {
	case "true", "false":
		p.take()
		return api.Node{Kind: api.EBool, Text: t.Text, At: t.At}, plain
	case "nil":
		p.take()
		return api.Node{Kind: api.ENil, At: t.At}, plain
	case "func":
		p.take()
		return api.Node{Kind: api.EFunc, At: t.At, Kids: p.function()}, plain
	case "make":
		return p.builtin(p.makeArguments), plain
	case "new":
		return p.builtin(p.newArguments), plain
	case "append", "cap", "close", "len", "panic", "print", "recover":
		return p.builtin(p.arguments), called
	}
	panic(p.broken("operand"))
}

// builtin parses a word, its parenthesis, and the rest of the call.
func (p *parser) builtin(rest func() []api.Node) api.Node {
	word := p.take()
	p.want("builtin", "(")
	return api.Node{Kind: api.EBuiltin, Text: word.Text, At: word.At, Kids: within(p, false, rest)}
}

func (p *parser) makeArguments() []api.Node {
	args := []api.Node{p.writtenType()}
	if p.skip(",") {
		args = append(args, p.expr())
	}
	p.want("make", ")")
	return args
}

func (p *parser) newArguments() []api.Node {
	name := p.wantName("new")
	p.want("new", ")")
	return []api.Node{{Kind: api.TPtr, Text: name.Text, At: name.At}}
}

func (p *parser) markOperand() api.Node {
	t := p.token()
	switch {
	case p.skip("("):
		inner := within(p, false, p.expr)
		p.want("operand", ")")
		return inner
	case !p.inHead && p.skip("&"):
		n := api.Node{Kind: api.ENew, Text: p.wantName("operand").Text, At: t.At}
		n.Kids = p.braced(p.initial)
		return n
	case !p.inHead && p.skip("["):
		p.want("operand", "]")
		items := p.writtenType()
		return api.Node{Kind: api.EList, At: t.At, Kids: append([]api.Node{items}, p.braced(p.expr)...)}
	}
	panic(p.broken("operand"))
}

// braced parses items in braces with commas between, where the last one may have a comma behind it.
func (p *parser) braced(item func() api.Node) []api.Node {
	var items []api.Node
	p.want("operand", "{")
	for !p.skip("}") {
		items = append(items, item())
		if !p.skip(",") {
			p.want("operand", "}")
			break
		}
	}
	return items
}

func (p *parser) initial() api.Node {
	name := p.wantName("init")
	p.want("init", ":")
	return api.Node{Kind: api.NField, Text: name.Text, At: name.At, Kids: []api.Node{p.expr()}}
}
