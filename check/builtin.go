package check

import (
	"slices"
	"strings"

	"derrick/api"
	"derrick/types"
)

func (c *checker) builtin(n *api.Node) string {
	switch n.Text {
	case "make":
		return c.making(n.Kids)
	case "new":
		return c.written(n.Kids[0])
	}
	args := c.exprs(n.Kids)
	must(len(args) <= api.MaxArgs, errExpr, n.Text)
	must(accepts(n.Text, args), errExpr, n.Text)
	switch n.Text {
	case "append":
		return args[0]
	case "len", "cap":
		return "int"
	case "recover":
		return "string"
	}
	return ""
}

// accepts tells whether a builtin may have arguments of these types.
func accepts(word string, args []string) bool {
	switch word {
	case "recover":
		return len(args) == 0
	case "print":
		return !slices.ContainsFunc(args, func(arg string) bool { return arg != "int" && arg != "bool" && arg != "string" })
	case "append":
		return len(args) > 0 && appends(args[0], args[1:])
	}
	return len(args) == 1 && acceptsOne(word, args[0])
}

// acceptsOne tells whether a builtin of one argument may have one of this type.
func acceptsOne(word, arg string) bool {
	isSlice, isChannel := strings.HasPrefix(arg, slice), strings.HasPrefix(arg, channel)
	switch word {
	case "len":
		return arg == "string" || isSlice || isChannel
	case "cap":
		return isSlice || isChannel
	case "close":
		return isChannel
	}
	return arg == "string"
}

func appends(to string, items []string) bool {
	item, ok := itemOf(to, slice)
	return ok && allFit(items, item)
}

func allFit(items []string, to string) bool {
	return !slices.ContainsFunc(items, func(item string) bool { return !types.Fits(item, to) })
}

// making goes through the type and the number of make: a slice's must have one.
func (c *checker) making(kids []api.Node) string {
	text := c.written(kids[0])
	args := c.exprs(kids[1:])
	isSlice, isChannel := strings.HasPrefix(text, slice), strings.HasPrefix(text, channel)
	must(isSlice && len(args) == 1 || isChannel, errExpr, "make")
	must(allFit(args, "int"), errExpr, "make")
	return text
}
