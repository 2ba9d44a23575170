package asm

import (
	"strconv"
	"strings"

	"derrick/api"
	"derrick/code"
	"derrick/print"
)

// writer is the text so far.
type writer struct {
	strings.Builder
}

// list is an instruction's list of numbers, registers tell which of them hold references: a line shows them each in its own way.
type (
	list      []int
	registers []bool
)

// line writes a line's parts, one behind the other, and its end.
func (w *writer) line(parts ...any) {
	for _, part := range parts {
		switch x := part.(type) {
		case string:
			w.WriteString(x)
		case int:
			w.WriteString(strconv.Itoa(x))
		case list:
			w.numbers(x)
		case registers:
			w.letters(x)
		}
	}
	w.WriteByte('\n')
}

func (w *writer) numbers(items list) {
	w.WriteByte('[')
	for i, n := range items {
		if i > 0 {
			w.WriteByte(' ')
		}
		w.WriteString(strconv.Itoa(n))
	}
	w.WriteByte(']')
}

func (w *writer) letters(refs registers) {
	for _, reference := range refs {
		if reference {
			w.WriteByte('r')
		} else {
			w.WriteByte('n')
		}
	}
}

func (w *writer) function(number int, f code.Func) {
	name, result := f.Name, ""
	if name == "" {
		name = "-"
	}
	if f.Result {
		result = " result"
	}
	w.line("func ", number, " ", name, " params ", f.Params, " captures ", f.Captures, " registers ", registers(f.Refs), result)
	for i, in := range f.Code {
		w.instr(i, in)
	}
}

func (w *writer) instr(number int, in code.Instr) {
	parts := []any{"\t", number, " ", Name(in.Op)}
	for _, use := range uses(in.Op) {
		parts = append(parts, " ", used(in, use))
	}
	w.line(parts...)
}

// used is what an instruction has under a letter of what it uses.
func used(in code.Instr, use rune) any {
	switch use {
	case 'A':
		return in.A
	case 'B':
		return in.B
	case 'C':
		return in.C
	case 'D':
		return in.D
	default:
		return list(in.List)
	}
}

// quoted lets layer 3 quote, so that a text stands here as it does in a source.
func quoted(text string) string {
	return print.Expr(api.Node{Kind: api.EStr, Text: text})
}
