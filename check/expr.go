package check

import (
	"slices"
	"strings"

	"derrick/api"
	"derrick/types"
)

// How types that have parts begin.
const (
	pointer = "*"
	slice   = "[]"
	channel = "chan "
)

// itemOf is the type of the items of a slice or channel, whichever the beginning asks for.
func itemOf(text, beginning string) (string, bool) {
	if !strings.HasPrefix(text, beginning) {
		return "", false
	}
	return types.Elem(text)
}

// areBoth tells whether two types are the same one of those that are listed.
func areBoth(left, right string, listed ...string) bool {
	return left == right && slices.Contains(listed, left)
}

// expr goes through an expression, and answers its type, which the node has from then on.
func (c *checker) expr(n *api.Node) string {
	n.Type = c.typeOf(n)
	return n.Type
}

func (c *checker) exprs(list []api.Node) []string {
	var texts []string
	for i := range list {
		texts = append(texts, c.expr(&list[i]))
	}
	return texts
}

func (c *checker) typeOf(n *api.Node) string {
	switch n.Kind {
	case api.EInt:
		return "int"
	case api.EStr:
		return "string"
	case api.EBool:
		return "bool"
	case api.ENil:
		return "nil"
	case api.EName:
		return c.name(n)
	case api.EUnary:
		return c.unary(n)
	case api.EBinary:
		return c.binary(n)
	case api.ECall:
		return c.call(n.Kids)
	case api.EBuiltin:
		return c.builtin(n)
	case api.EIndex:
		return c.index(n.Kids)
	case api.ESlice:
		return c.slicing(n.Kids)
	case api.ESel:
		return c.field(n)
	case api.EFunc:
		return c.literal(n)
	case api.ENew:
		return c.object(n)
	case api.EList:
		return c.list(n.Kids)
	}
	return ""
}

func (c *checker) name(n *api.Node) string {
	n.Ref = c.names.find(n.Text)
	must(n.Ref != noValue, errScope, n.Text)
	if n.Ref < 0 {
		return c.unit.Funcs[-n.Ref-1].Type
	}
	v := &c.unit.Vars[n.Ref-1]
	if v.Func != 0 && v.Func != c.inside.number {
		v.Boxed = true
	}
	return v.Type
}

func (c *checker) unary(n *api.Node) string {
	of := c.expr(&n.Kids[0])
	switch n.Text {
	case "-":
		must(of == "int", errExpr, "-")
		return of
	case "!":
		must(of == "bool", errExpr, "!")
		return of
	}
	item, ok := itemOf(of, channel)
	must(ok, errExpr, "<-")
	return item
}

func (c *checker) binary(n *api.Node) string {
	left, right := c.expr(&n.Kids[0]), c.expr(&n.Kids[1])
	switch n.Text {
	case "+":
		must(areBoth(left, right, "int", "string"), errExpr, n.Text)
		return left
	case "-", "*", "/", "%":
		must(areBoth(left, right, "int"), errExpr, n.Text)
		return left
	case "<", "<=", ">", ">=":
		must(left == right && types.Ordered(left), errExpr, n.Text)
	case "==", "!=":
		must(types.Equals(left, right), errExpr, n.Text)
	default:
		must(areBoth(left, right, "bool"), errExpr, n.Text)
	}
	return "bool"
}

func (c *checker) call(kids []api.Node) string {
	params, result, ok := types.Func(c.expr(&kids[0]))
	must(ok, errExpr, "call")
	args := c.exprs(kids[1:])
	must(len(args) == len(params), errExpr, "call")
	for i, arg := range args {
		must(types.Fits(arg, params[i]), errExpr, "call")
	}
	return result
}

func (c *checker) index(kids []api.Node) string {
	of := c.expr(&kids[0])
	must(c.expr(&kids[1]) == "int", errExpr, "index")
	if of == "string" {
		return "int"
	}
	item, ok := itemOf(of, slice)
	must(ok, errExpr, "index")
	return item
}

func (c *checker) slicing(kids []api.Node) string {
	of := c.expr(&kids[0])
	must(of == "string" || strings.HasPrefix(of, slice), errExpr, "slice")
	for i := range kids[1:] {
		if bound := &kids[1+i]; bound.Kind != api.NNone {
			must(c.expr(bound) == "int", errExpr, "slice")
		}
	}
	return of
}

func (c *checker) field(n *api.Node) string {
	name, ok := strings.CutPrefix(c.expr(&n.Kids[0]), pointer)
	must(ok, errExpr, "field")
	return c.fieldOf(name, n.Text)
}

// fieldOf is the type of a struct's field.
func (c *checker) fieldOf(name, field string) string {
	found, ok := c.structOf(name)
	must(ok, errExpr, name)
	for _, f := range found.Fields {
		if f.Name == field {
			return f.Type
		}
	}
	panic(breach{part: field, rule: errExpr})
}

// literal goes through a function where it stands. Its tree is the function's from then on.
func (c *checker) literal(n *api.Node) string {
	n.Ref = c.newFunc("", n.Kids)
	c.body(n.Ref, n.Kids)
	n.Kids = nil
	return c.unit.Funcs[n.Ref-1].Type
}

func (c *checker) object(n *api.Node) string {
	_, ok := c.structOf(n.Text)
	must(ok, errExpr, n.Text)
	must(len(n.Kids) <= api.MaxFields, errExpr, n.Text)
	must(unlike(n.Kids), errExpr, n.Text)
	for i := range n.Kids {
		field := c.fieldOf(n.Text, n.Kids[i].Text)
		must(types.Fits(c.expr(&n.Kids[i].Kids[0]), field), errExpr, n.Text)
	}
	return pointer + n.Text
}

// list goes through a slice's literal: the items' type, and the items.
func (c *checker) list(kids []api.Node) string {
	item := c.written(kids[0])
	items := c.exprs(kids[1:])
	must(len(items) <= api.MaxFields, errExpr, "items")
	must(allFit(items, item), errExpr, "items")
	return slice + item
}
