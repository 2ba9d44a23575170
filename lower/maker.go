package lower

import (
	"slices"

	"derrick/api"
	"derrick/code"
	"derrick/types"
)

// maker makes the functions of a program, and keeps what they share.
type maker struct {
	unit        api.Unit
	captured    [][]int // of each function
	texts       []string
	textNumbers map[string]int
}

// function makes the function of a number.
func (m *maker) function(number int) code.Func {
	f := m.unit.Funcs[number-1]
	captures := m.captured[number-1]
	_, result, _ := types.Func(f.Type)
	b := newBuilder(m)
	b.begin(f.Params, captures)
	b.stmts(f.Body.Kids)
	b.end(result)
	return code.Func{
		Name:     f.Name,
		Refs:     b.refs,
		Params:   len(f.Params),
		Captures: len(captures),
		Result:   result != "",
		Code:     b.code,
	}
}

// textNumber is the number of a text among those of the program.
func (m *maker) textNumber(text string) int {
	number, ok := m.textNumbers[text]
	if !ok {
		number = len(m.texts)
		m.textNumbers[text] = number
		m.texts = append(m.texts, text)
	}
	return number
}

func (m *maker) variable(number int) api.Var {
	return m.unit.Vars[number-1]
}

func (m *maker) structNumber(name string) int {
	return slices.IndexFunc(m.unit.Structs, func(s api.Struct) bool { return s.Name == name })
}

// fieldNumber is the number of a field of the struct that a pointer's type names.
func (m *maker) fieldNumber(pointer, name string) int {
	fields := m.unit.Structs[m.structNumber(pointer[len("*"):])].Fields
	return slices.IndexFunc(fields, func(f api.Field) bool { return f.Name == name })
}
