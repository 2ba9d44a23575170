package lower

import (
	"derrick/code"
	"derrick/types"
)

// nothing stands in an instruction where a register or a number may lack.
const nothing = -1

// builder makes the code of one function. While it does, labels stand in the code where numbers of instructions belong.
type builder struct {
	*maker
	code       []code.Instr
	refs       []bool      // of each register whether it holds references
	registers  map[int]int // of each variable that was met; of a boxed one its box's
	numbers    bank
	references bank
	labels     []int // the instruction at which each one stands
	around     []enclosing
}

func newBuilder(m *maker) *builder {
	return &builder{maker: m, registers: map[int]int{}, numbers: bank{zero: nothing}, references: bank{zero: nothing}}
}

func (b *builder) emit(i code.Instr) {
	b.code = append(b.code, i)
}

// begin lays out the registers that a call fills, and boxes the params that must be. A param is made when its function is called: ahead of the safepoint, at which the run may end.
func (b *builder) begin(params, captures []int) {
	for _, v := range params {
		b.registers[v] = b.register(types.Reference(b.variable(v).Type))
	}
	for _, v := range captures {
		b.registers[v] = b.register(true)
	}
	for _, v := range params {
		if b.variable(v).Boxed {
			b.boxParam(v)
		}
	}
	b.emit(code.Instr{Op: code.Yield})
}

// boxParam puts the box into the param's own register where it can, so that nothing else holds on to what was handed in.
func (b *builder) boxParam(v int) {
	value := b.registers[v]
	if !b.refs[value] {
		b.registers[v] = b.register(true)
	}
	b.emit(code.Instr{Op: code.MakeBox, A: b.registers[v], B: value})
}

// end puts a Return behind all, and numbers of instructions in place of labels.
func (b *builder) end(result string) {
	value := nothing
	if result != "" {
		value = b.zero(types.Reference(result))
	}
	b.emit(code.Instr{Op: code.Return, A: value})
	for k := range b.code {
		b.resolve(&b.code[k])
	}
}

func (b *builder) resolve(i *code.Instr) {
	switch i.Op {
	case code.Jump, code.Unless:
		i.A = b.labels[i.A]
	case code.Select:
		if i.B != nothing {
			i.B = b.labels[i.B]
		}
		for k := 3; k < len(i.List); k += 4 {
			i.List[k] = b.labels[i.List[k]]
		}
	}
}

// label makes a label that stands nowhere yet.
func (b *builder) label() int {
	b.labels = append(b.labels, nothing)
	return len(b.labels) - 1
}

// here lays a label ahead of the next instruction.
func (b *builder) here(label int) {
	b.labels[label] = len(b.code)
}

func (b *builder) jump(label int) {
	b.emit(code.Instr{Op: code.Jump, A: label})
}
