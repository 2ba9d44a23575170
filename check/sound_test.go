package check_test

import (
	"reflect"
	"strings"
	"testing"

	"derrick/api"
	"derrick/parse"
	"derrick/types"
)

// counter numbers functions and variables by the tree alone, and holds the unit's trees against it.
type counter struct {
	t     *testing.T
	src   string
	unit  api.Unit
	vars  []api.Var // without types
	outer []int     // of each function
	lits  int       // functions that were met in exprs
	files int       // functions of the file
}

// sound holds a unit against the source's tree: what layer 2 has is there, what is marked is marked, and nothing else.
func sound(t *testing.T, src string, unit api.Unit) {
	t.Helper()
	file, _ := parse.Parse(src)
	c := &counter{t: t, src: src, unit: unit}
	for _, decl := range file.Kids {
		switch decl.Kind {
		case api.NVarDecl:
			c.declare(decl.Text, types.Of(decl.Kids[0]), 0)
		case api.NFuncDecl:
			c.files++
		}
	}
	number := 0
	for _, decl := range file.Kids {
		if decl.Kind == api.NFuncDecl {
			number++
			c.function(decl.Text, decl.Kids, number, 0)
			if decl.Text == "main" && unit.Main != number {
				c.fail("main is not %d", number)
			}
		}
	}
	c.structs(file.Kids)
	if len(unit.Funcs) != c.files+c.lits || len(unit.Vars) != len(c.vars) {
		c.fail("%d functions, %d variables", len(unit.Funcs), len(unit.Vars))
	}
	for i, v := range c.vars {
		if got := unit.Vars[i]; got.Name != v.Name || got.Func != v.Func || got.Boxed != v.Boxed || !types.Valid(got.Type) {
			c.fail("variable %d: %v, not %v", i+1, got, v)
		}
	}
}

func (c *counter) fail(form string, args ...any) {
	c.t.Helper()
	c.t.Errorf("%.300q: "+form, append([]any{c.src}, args...)...)
}

func (c *counter) structs(decls []api.Node) {
	var want []api.Struct
	for _, decl := range decls {
		if decl.Kind != api.NTypeDecl {
			continue
		}
		s := api.Struct{Name: decl.Text}
		for _, field := range decl.Kids {
			s.Fields = append(s.Fields, api.Field{Name: field.Text, Type: types.Of(field.Kids[0])})
		}
		want = append(want, s)
	}
	if !reflect.DeepEqual(c.unit.Structs, want) {
		c.fail("%v", c.unit.Structs)
	}
}

func (c *counter) declare(name, text string, function int) int {
	c.vars = append(c.vars, api.Var{Name: name, Func: function})
	number := len(c.vars)
	if number > len(c.unit.Vars) || text != "" && c.unit.Vars[number-1].Type != text {
		c.fail("variable %d (%s)", number, name)
	}
	return number
}

// function holds a function against its decl or literal.
func (c *counter) function(name string, parts []api.Node, number, outer int) {
	if number > len(c.unit.Funcs) {
		c.fail("no function %d", number)
		return
	}
	got := c.unit.Funcs[number-1]
	var texts []string
	var params []int
	for _, param := range parts[0].Kids {
		text := types.Of(param.Kids[0])
		texts = append(texts, text)
		params = append(params, c.declare(param.Text, text, number))
	}
	text := "func(" + strings.Join(texts, ",") + ")" + types.Of(parts[1])
	if got.Name != name || got.Type != text || got.Outer != outer || !reflect.DeepEqual(got.Params, params) {
		c.fail("function %d: %q %q %d %v", number, got.Name, got.Type, got.Outer, got.Params)
	}
	c.node(parts[2], got.Body, number)
}

// node holds a checked node against layer 2's.
func (c *counter) node(was, is api.Node, function int) {
	if was.Kind != is.Kind || was.Text != is.Text || was.Num != is.Num || was.At != is.At {
		c.fail("%v is %v", was, is)
		return
	}
	switch {
	case is.Kind == api.EFunc:
		c.literal(was, is, function)
		return
	case len(was.Kids) != len(is.Kids):
		c.fail("%v is %v", was, is)
		return
	case is.Kind == api.SComm && is.Text == "recv" && len(is.Kids) == 3:
		c.node(was.Kids[1], is.Kids[1], function)
		c.declares(is.Kids[0], function)
		c.node(was.Kids[2], is.Kids[2], function)
	default:
		for i := range was.Kids {
			c.node(was.Kids[i], is.Kids[i], function)
		}
	}
	c.marks(is, function)
}

func (c *counter) literal(was, is api.Node, function int) {
	c.lits++
	number := c.files + c.lits
	if is.Ref != number || len(is.Kids) != 0 || number <= len(c.unit.Funcs) && is.Type != c.unit.Funcs[number-1].Type {
		c.fail("function %d: %v", number, is)
	}
	c.function("", was.Kids, number, function)
}

func (c *counter) declares(is api.Node, function int) {
	number := c.declare(is.Text, "", function)
	if is.Ref != number || is.Type != "" {
		c.fail("%s has %d for its number, not %d", is.Text, is.Ref, number)
	}
}

// marks asks a node for its Type and Ref.
func (c *counter) marks(is api.Node, function int) {
	switch {
	case is.Kind == api.SDefine || is.Kind == api.SVar:
		c.declares(is, function)
		return
	case is.Kind < api.EInt:
		if is.Type != "" || is.Ref != 0 {
			c.fail("%v", is)
		}
		return
	case is.Kind == api.EName:
		c.name(is, function)
		return
	}
	nothing := is.Type == "" && (is.Kind == api.ECall || is.Kind == api.EBuiltin)
	isNil := is.Type == "nil" && is.Kind == api.ENil
	if is.Ref != 0 || !nothing && !isNil && !types.Valid(is.Type) {
		c.fail("%v", is)
	}
}

func (c *counter) name(is api.Node, function int) {
	switch {
	case is.Ref < 0 && -is.Ref <= c.files:
		if f := c.unit.Funcs[-is.Ref-1]; f.Name != is.Text || f.Type != is.Type {
			c.fail("%v", is)
		}
	case is.Ref > 0 && is.Ref <= len(c.vars):
		v := &c.vars[is.Ref-1]
		if v.Name != is.Text || c.unit.Vars[is.Ref-1].Type != is.Type {
			c.fail("%v", is)
		}
		v.Boxed = v.Boxed || v.Func != 0 && v.Func != function
	default:
		c.fail("%v", is)
	}
}
