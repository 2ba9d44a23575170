package lower

import (
	"derrick/code"
	"derrick/types"
)

// bank holds the registers of one kind, references or numbers, that belong to no variable.
type bank struct {
	zero  int   // nothing is ever put into it; or there is none
	temps []int // what is between an operand and what is done with it
	used  int   // how many of these hold something that is still wanted
}

// mark is how many temps are used of both kinds.
type mark struct {
	numbers, references int
}

func (b *builder) mark() mark {
	return mark{numbers: b.numbers.used, references: b.references.used}
}

// release gives the temps back that were taken since the mark.
func (b *builder) release(m mark) {
	b.numbers.used = m.numbers
	b.references.used = m.references
}

// register makes a register.
func (b *builder) register(ref bool) int {
	b.refs = append(b.refs, ref)
	return len(b.refs) - 1
}

func (b *builder) bank(ref bool) *bank {
	if ref {
		return &b.references
	}
	return &b.numbers
}

// temp takes a temp.
func (b *builder) temp(ref bool) int {
	k := b.bank(ref)
	if k.used == len(k.temps) {
		k.temps = append(k.temps, b.register(ref))
	}
	k.used++
	return k.temps[k.used-1]
}

// zero is a register that has been zero since the function was called: 0, false, nil and the empty text.
func (b *builder) zero(ref bool) int {
	k := b.bank(ref)
	if k.zero == nothing {
		k.zero = b.register(ref)
	}
	return k.zero
}

// home is the register of a variable, or that of its box. It is made where the variable is met first, which isn't
// always its declaration: a for's last part may declare one, and its block, which sees it, is made ahead of it.
func (b *builder) home(v int) int {
	r, ok := b.registers[v]
	if !ok {
		of := b.variable(v)
		r = b.register(of.Boxed || types.Reference(of.Type))
		b.registers[v] = r
	}
	return r
}

// moved brings what a register has to where it is wanted.
func (b *builder) moved(from, want int) int {
	if want == anywhere || want == from {
		return from
	}
	b.emit(code.Instr{Op: code.Move, A: want, B: from})
	return want
}
