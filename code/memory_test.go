package code_test

import (
	"bytes"
	"reflect"
	"testing"

	"derrick/code"
)

// spoil writes over all that a program's lists hold, their spare room too.
func spoil(p code.Program) {
	fill(p.Texts, "spoilt")
	fill(p.Globals, true)
	for _, s := range p.Structs {
		fill(s, true)
	}
	fill(p.Structs, []bool{true, true, true, true, true})
	for _, f := range p.Funcs {
		fill(f.Refs, true)
		for _, i := range f.Code {
			fill(i.List, 77)
		}
		fill(f.Code, code.Instr{Op: 77})
	}
	fill(p.Funcs, code.Func{Name: "spoilt"})
}

func fill[T any](list []T, x T) {
	for i := range list[:cap(list)] {
		list[:cap(list)][i] = x
	}
}

func TestAnswersAreNewMemory(t *testing.T) {
	b := code.Encode(sample())
	p, _ := code.Decode(b)
	q, _ := code.Decode(b)
	spoil(q)
	for i := range b {
		b[i] = 255
	}
	if !same(p, sample()) {
		t.Errorf("a program changed with its bytes or with another: %+v", p)
	}
	given := sample()
	c, d := code.Encode(given), code.Encode(given)
	fill(d, 255)
	spoil(given)
	if !bytes.Equal(c, code.Encode(sample())) {
		t.Error("bytes changed with their program or with others")
	}
}

// TestListsOfOneAnswer grows and overwrites each list of an answer: no other list of it may tell.
func TestListsOfOneAnswer(t *testing.T) {
	b := code.Encode(sample())
	lists := func(p *code.Program) []func() {
		out := []func(){
			func() { fill(p.Globals, true); p.Globals = nil },
			func() { fill(p.Texts, "spoilt"); p.Texts = nil },
		}
		for i := range p.Structs {
			out = append(out, func() { fill(p.Structs[i], true); p.Structs[i] = nil })
		}
		for i := range p.Funcs {
			f := &p.Funcs[i]
			out = append(out, func() { fill(f.Refs, true); f.Refs = nil })
			for k := range f.Code {
				out = append(out, func() { fill(f.Code[k].List, 77); f.Code[k].List = nil })
			}
		}
		return out
	}
	got, _ := code.Decode(b)
	n := len(lists(&got))
	for i := range n {
		got, _ := code.Decode(b)
		want := plain(sample())
		lists(&got)[i]()
		lists(&want)[i]()
		if !same(got, want) {
			t.Errorf("list %d shares memory with another:\n%+v\n%+v", i, got, want)
		}
	}
}

func TestArgumentsStay(t *testing.T) {
	spare := append(make([]byte, 0, 4096), code.Encode(sample())...)
	whole := bytes.Clone(spare[:cap(spare)])
	code.Decode(spare)
	if !bytes.Equal(whole, spare[:cap(spare)]) {
		t.Error("Decode changed its bytes")
	}
	given := sample()
	code.Encode(given)
	if !reflect.DeepEqual(given, sample()) {
		t.Error("Encode changed its program")
	}
}
