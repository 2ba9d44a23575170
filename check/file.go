package check

import (
	"slices"

	"derrick/api"
	"derrick/types"
)

// file goes through the decls: first the structs' names, for types may name structs from further on; then
// what else the file declares, for blocks may use it from further on; then the blocks.
func (c *checker) file(decls []api.Node) {
	c.names.enter()
	for _, decl := range decls {
		if decl.Kind == api.NTypeDecl {
			c.unit.Structs = append(c.unit.Structs, api.Struct{Name: decl.Text})
			must(c.names.add(decl.Text, noValue), errFile, decl.Text)
		}
	}
	for _, decl := range decls {
		c.declare(decl)
	}
	c.unit.Main = c.mainFunc()
	for _, decl := range decls {
		if decl.Kind == api.NFuncDecl {
			c.body(-c.names.find(decl.Text), decl.Kids)
		}
	}
}

// declare makes what a decl declares, but for a function's block.
func (c *checker) declare(decl api.Node) {
	switch decl.Kind {
	case api.NTypeDecl:
		found, _ := c.structOf(decl.Text)
		found.Fields = c.fields(decl.Kids)
	case api.NVarDecl:
		c.newVar(decl.Text, c.written(decl.Kids[0]))
	case api.NFuncDecl:
		number := c.newFunc(decl.Text, decl.Kids)
		must(c.names.add(decl.Text, -number), errFile, decl.Text)
	}
}

func (c *checker) fields(nodes []api.Node) []api.Field {
	must(len(nodes) <= api.MaxFields, errFile, "fields")
	must(unlike(nodes), errFile, "fields")
	var fields []api.Field
	for _, n := range nodes {
		fields = append(fields, api.Field{Name: n.Text, Type: c.written(n.Kids[0])})
	}
	return fields
}

// unlike tells whether no two nodes have the same name.
func unlike(nodes []api.Node) bool {
	for i, n := range nodes {
		if slices.ContainsFunc(nodes[:i], func(other api.Node) bool { return other.Text == n.Text }) {
			return false
		}
	}
	return true
}

func (c *checker) mainFunc() int {
	number := -c.names.find("main")
	must(number > 0 && c.unit.Funcs[number-1].Type == "func()", errFile, "main")
	return number
}

// structOf finds a struct by its name.
func (c *checker) structOf(name string) (*api.Struct, bool) {
	i := slices.IndexFunc(c.unit.Structs, func(s api.Struct) bool { return s.Name == name })
	if i < 0 {
		return nil, false
	}
	return &c.unit.Structs[i], true
}

// written is the text of a type that stands in the source; empty of none.
func (c *checker) written(n api.Node) string {
	c.typeParts(n)
	text := types.Of(n)
	must(len(text) <= api.MaxType, errFile, "type")
	return text
}

// typeParts asks a type, and all that it is made of, for what its text doesn't tell.
func (c *checker) typeParts(n api.Node) {
	switch n.Kind {
	case api.TPtr:
		_, ok := c.structOf(n.Text)
		must(ok, errFile, n.Text)
	case api.TFunc:
		params := len(n.Kids) - 1
		must(params <= api.MaxArgs, errFile, "params")
	}
	for _, kid := range n.Kids {
		c.typeParts(kid)
	}
}
