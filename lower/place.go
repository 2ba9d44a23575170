package lower

import (
	"derrick/api"
	"derrick/code"
)

// place is what can be read and, but for functions and bytes of texts, written, once its parts are evaluated.
type place struct {
	get, set int // the instructions that read and write it
	of, at   int // what it is part of, and where in that
}

// place evaluates the parts of a name, an index or a field.
func (b *builder) place(n api.Node) place {
	switch n.Kind {
	case api.ESel:
		of := n.Kids[0]
		return place{get: code.GetField, set: code.SetField, of: b.operand(of), at: b.fieldNumber(of.Type, n.Text)}
	case api.EIndex:
		p := place{get: code.Index, set: code.SetIndex, of: b.operand(n.Kids[0]), at: b.operand(n.Kids[1])}
		if n.Kids[0].Type == "string" {
			p.get, p.set = code.TextIndex, 0
		}
		return p
	}
	return b.namePlace(n.Ref)
}

// namePlace is the place of a variable; or a function of the file, by a number below 0.
func (b *builder) namePlace(ref int) place {
	switch {
	case ref < 0:
		return place{get: code.Direct, of: -ref}
	case b.variable(ref).Func == 0:
		return place{get: code.GetGlobal, set: code.SetGlobal, of: ref - 1}
	case b.variable(ref).Boxed:
		return place{get: code.GetBox, set: code.SetBox, of: b.home(ref)}
	}
	return place{get: code.Move, set: code.Move, of: b.home(ref)}
}

// register is the register that the place is, if it is one; else anywhere.
func (p place) register() int {
	if p.get == code.Move {
		return p.of
	}
	return anywhere
}

// read is the instruction that reads the place, but for where to.
func (p place) read() code.Instr {
	return code.Instr{Op: p.get, B: p.of, C: p.at}
}

// load reads a place.
func (b *builder) load(p place, ref bool) int {
	if r := p.register(); r != anywhere {
		return r
	}
	i := p.read()
	i.A = b.temp(ref)
	b.emit(i)
	return i.A
}

// store writes a place.
func (b *builder) store(p place, value int) {
	switch p.set {
	case code.Move:
		b.moved(value, p.of)
	case code.SetBox, code.SetGlobal:
		b.emit(code.Instr{Op: p.set, A: p.of, B: value})
	default:
		b.emit(code.Instr{Op: p.set, A: p.of, B: p.at, C: value})
	}
}
