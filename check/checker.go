package check

import (
	"derrick/api"
	"derrick/types"
)

// noValue is what the name of a type stands for in the file's scope: it is taken, but no value has it.
const noValue = 0

// checker goes through a tree once its file's names are known, and writes types and references into it.
type checker struct {
	unit   api.Unit
	names  scopes
	inside function
}

// function is the one that is gone through.
type function struct {
	number int // 0: none
	result string
	around []enclosing // from the outermost on
}

// newVar makes a variable that is there from now on, and answers its number.
func (c *checker) newVar(name, text string) int {
	must(len(c.unit.Vars) < api.MaxVars, errFile, "variables")
	c.unit.Vars = append(c.unit.Vars, api.Var{Name: name, Type: text, Func: c.inside.number})
	number := len(c.unit.Vars)
	must(c.names.add(name, number), errScope, name)
	return number
}

// newFunc makes a function of its params and result, and answers its number. Its block is gone through later.
func (c *checker) newFunc(name string, parts []api.Node) int {
	must(len(c.unit.Funcs) < api.MaxFuncs, errFile, "functions")
	c.unit.Funcs = append(c.unit.Funcs, api.Func{Name: name, Type: c.signature(parts), Outer: c.inside.number})
	return len(c.unit.Funcs)
}

// signature is a function's type. It isn't written as one, so its text may be of any length.
func (c *checker) signature(parts []api.Node) string {
	params, result := parts[0].Kids, parts[1]
	must(len(params) <= api.MaxArgs, errFile, "params")
	whole := api.Node{Kind: api.TFunc}
	for _, param := range params {
		c.written(param.Kids[0])
		whole.Kids = append(whole.Kids, param.Kids[0])
	}
	c.written(result)
	whole.Kids = append(whole.Kids, result)
	return types.Of(whole)
}

// body goes through a function's params and block.
func (c *checker) body(number int, parts []api.Node) {
	outer := c.inside
	c.inside = function{number: number, result: types.Of(parts[1])}
	c.names.enter()
	var params []int
	for _, param := range parts[0].Kids {
		params = append(params, c.newVar(param.Text, types.Of(param.Kids[0])))
	}
	block := parts[2]
	ends := c.stmts(block.Kids)
	must(ends || c.inside.result == "", errEnd, "function")
	c.names.leave()
	c.inside = outer
	c.unit.Funcs[number-1].Params = params
	c.unit.Funcs[number-1].Body = block
}
