package code_test

import (
	"bytes"
	"math"
	"reflect"
	"strings"
	"testing"

	"derrick/code"
)

// edges are numbers at which a form of them may have a seam.
var edges = []int{0, 1, -1, 2, 63, 64, -64, -65, 127, 128, -128, -129, 255, 256, 8191, 8192, -8192, -8193, 16383, 16384,
	math.MaxInt32, math.MinInt32, 1 << 40, -1 << 40, 1<<62 - 1, 1 << 62, -1 << 62, -1<<62 - 1, math.MaxInt - 1, math.MaxInt, math.MinInt, math.MinInt + 1}

// sample is a program with something in every place.
func sample() code.Program {
	return code.Program{
		Texts:   []string{"a", "", "b\n\x00\xff\x80", strings.Repeat("long ", 60)},
		Globals: []bool{true, false, true},
		Structs: [][]bool{{true}, {false, true}, {true, true, false}},
		Funcs: []code.Func{
			{Name: "main", Refs: []bool{false, true}, Params: 0, Captures: 0, Code: []code.Instr{
				{Op: code.Const, A: 0, B: -7},
				{Op: code.Text, A: 1, B: 3},
				{Op: code.Slice, A: 1, B: 1, C: -1, D: 5},
				{Op: code.Return, A: -1},
			}},
			{Name: "f", Refs: []bool{true, false, true}, Params: 2, Captures: 1, Result: true, Code: []code.Instr{
				{Op: code.Select, B: -1, List: []int{1, 0, 1, 1 << 40, 2, 0, 1, -300}},
				{Op: code.Call, A: -1, B: 0, List: []int{1}},
				{Op: code.Yield},
			}},
		},
		Main: 1,
	}
}

// same tells whether two programs are, where an empty list may be nil.
func same(a, b code.Program) bool {
	return reflect.DeepEqual(plain(a), plain(b))
}

// plain is a copy of a program in which every list without items is nil.
func plain(p code.Program) code.Program {
	p.Texts = append([]string(nil), p.Texts...)
	p.Globals = append([]bool(nil), p.Globals...)
	p.Structs = append([][]bool(nil), p.Structs...)
	for i, s := range p.Structs {
		p.Structs[i] = append([]bool(nil), s...)
	}
	p.Funcs = append([]code.Func(nil), p.Funcs...)
	for i, f := range p.Funcs {
		f.Refs = append([]bool(nil), f.Refs...)
		f.Code = append([]code.Instr(nil), f.Code...)
		for k, c := range f.Code {
			f.Code[k].List = append([]int(nil), c.List...)
		}
		p.Funcs[i] = f
	}
	return p
}

// roundTrip tells a program's bytes, once they are read as that program again.
func roundTrip(t *testing.T, p code.Program) []byte {
	t.Helper()
	b := code.Encode(p)
	q, ok := code.Decode(b)
	if !ok || !same(p, q) {
		t.Fatalf("%+v\nis read as %v\n%+v", p, ok, q)
	}
	return b
}

// refused asks that bytes are no program, and that nothing is told of them.
func refused(t *testing.T, b []byte) {
	t.Helper()
	if p, ok := code.Decode(b); ok || !reflect.DeepEqual(p, code.Program{}) {
		t.Fatalf("% x: %v %+v", b, ok, p)
	}
}

// wholeOnly asks that no beginning of a program's bytes is a program, and none that goes on behind them.
func wholeOnly(t *testing.T, b []byte) {
	t.Helper()
	for n := range b {
		refused(t, b[:n])
		refused(t, b[:n:n])
	}
	for more := range 256 {
		refused(t, append(bytes.Clone(b), byte(more)))
	}
	refused(t, append(bytes.Clone(b), b...))
	refused(t, append(bytes.Clone(b), make([]byte, 1000)...))
}

// oneInstr is a program of one function of one instruction.
func oneInstr(i code.Instr) code.Program {
	return code.Program{Main: 1, Funcs: []code.Func{{Name: "main", Code: []code.Instr{i}}}}
}

func TestWholePrograms(t *testing.T) {
	rows := map[string]code.Program{
		"empty":           {},
		"main alone":      {Main: 1},
		"sample":          sample(),
		"empty lists":     {Texts: []string{}, Globals: []bool{}, Structs: [][]bool{}, Funcs: []code.Func{}},
		"empty in lists":  {Structs: [][]bool{{}, nil, {}}, Texts: []string{"", ""}, Funcs: []code.Func{{}, {Refs: []bool{}, Code: []code.Instr{}}}},
		"empty list":      oneInstr(code.Instr{Op: code.List, List: []int{}}),
		"no list":         oneInstr(code.Instr{Op: code.List}),
		"a func of names": {Funcs: []code.Func{{Name: "ä\xff\x00"}}},
	}
	for name, p := range rows {
		t.Run(name, func(t *testing.T) { wholeOnly(t, roundTrip(t, p)) })
	}
}

func TestEveryOp(t *testing.T) {
	for op := -1; op <= 300; op++ {
		roundTrip(t, oneInstr(code.Instr{Op: op, A: 1, B: 2, C: 3, D: 4, List: []int{5, 6}}))
	}
}

func TestNumbersOfOps(t *testing.T) {
	got := []int{code.Const, code.Text, code.Direct, code.Closure, code.Move, code.GetGlobal, code.SetGlobal,
		code.MakeBox, code.GetBox, code.SetBox, code.Neg, code.Not, code.Add, code.Sub, code.Mul, code.Div, code.Mod,
		code.Lt, code.Le, code.Eq, code.Ne, code.Join, code.TextEq, code.TextLt, code.TextLe, code.Jump, code.Unless,
		code.NewObject, code.GetField, code.SetField, code.List, code.MakeSlice, code.MakeChan, code.Index,
		code.SetIndex, code.TextIndex, code.Slice, code.SubText, code.Append, code.TextLen, code.SliceLen,
		code.SliceCap, code.ChanLen, code.ChanCap, code.Call, code.Go, code.Defer, code.Return, code.Send, code.Recv,
		code.Close, code.Select, code.Print, code.Panic, code.Recover, code.Yield}
	if len(got) != 56 {
		t.Errorf("%d ops", len(got))
	}
	for i, op := range got {
		if op != i+1 {
			t.Errorf("op %d is %d", i+1, op)
		}
	}
}

func TestNumbersInEveryPlace(t *testing.T) {
	for _, n := range edges {
		for _, p := range []code.Program{
			{Main: n},
			{Funcs: []code.Func{{Params: n}}},
			{Funcs: []code.Func{{Captures: n}}},
			oneInstr(code.Instr{Op: n}),
			oneInstr(code.Instr{A: n}),
			oneInstr(code.Instr{B: n}),
			oneInstr(code.Instr{C: n}),
			oneInstr(code.Instr{D: n}),
			oneInstr(code.Instr{List: []int{n}}),
			oneInstr(code.Instr{List: []int{1, n, 1}}),
			oneInstr(code.Instr{Op: n, A: n, B: n, C: n, D: n, List: []int{n, n, n}}),
		} {
			wholeOnly(t, roundTrip(t, p))
		}
	}
	seen := map[string]int{}
	for n := -70000; n < 70000; n++ {
		b := string(roundTrip(t, code.Program{Main: n}))
		if m, ok := seen[b]; ok {
			t.Fatalf("%d and %d have the same bytes", m, n)
		}
		seen[b] = n
	}
}

func TestEveryByteInTexts(t *testing.T) {
	for b := range 256 {
		one := string([]byte{byte(b)})
		for _, s := range []string{one, one + one, "a" + one, one + "a"} {
			wholeOnly(t, roundTrip(t, code.Program{Texts: []string{s, "behind"}}))
			roundTrip(t, code.Program{Funcs: []code.Func{{Name: s, Params: 1}}})
		}
	}
}

func TestLongLists(t *testing.T) {
	for _, n := range []int{1, 2, 63, 64, 127, 128, 129, 255, 256, 257, 16383, 16384, 16385, 70000} {
		flags, list := make([]bool, n), make([]int, n)
		for i := range n {
			flags[i], list[i] = i%3 == 0, i*i-n
		}
		long := strings.Repeat("xy", n)[:n]
		for _, p := range []code.Program{
			{Texts: []string{long, "b"}},
			{Texts: make([]string, n)},
			{Globals: flags},
			{Structs: [][]bool{flags, {true}}},
			{Structs: make([][]bool, n)},
			{Funcs: []code.Func{{Name: long}}},
			{Funcs: []code.Func{{Refs: flags}}},
			{Funcs: make([]code.Func, n)},
			{Funcs: []code.Func{{Code: make([]code.Instr, n)}}},
			oneInstr(code.Instr{List: list}),
		} {
			b := roundTrip(t, p)
			refused(t, b[:len(b)-1])
			refused(t, append(bytes.Clone(b), 0))
		}
	}
}

func TestLongBeginnings(t *testing.T) {
	p := sample()
	p.Texts = append(p.Texts, strings.Repeat("z", 300))
	p.Funcs[0].Refs = make([]bool, 300)
	p.Globals = make([]bool, 300)
	wholeOnly(t, roundTrip(t, p))
}

func TestNilAndEmptyAreTheSame(t *testing.T) {
	a := code.Program{Structs: [][]bool{nil}, Funcs: []code.Func{{Code: []code.Instr{{}}}}}
	b := code.Program{Texts: []string{}, Globals: []bool{}, Structs: [][]bool{{}}, Funcs: []code.Func{{Refs: []bool{}, Code: []code.Instr{{List: []int{}}}}}}
	if !bytes.Equal(code.Encode(a), code.Encode(b)) {
		t.Error("the bytes of lists that are nil and empty aren't the same")
	}
}

func TestReference(t *testing.T) {
	f := code.Func{Refs: []bool{true, false, false, true}, Params: 9, Captures: 9}
	for r := -300; r <= 300; r++ {
		if got, want := f.Reference(r), r == 0 || r == 3; got != want {
			t.Errorf("register %d: %v", r, got)
		}
	}
	for _, r := range edges {
		if got, want := f.Reference(r), r == 0 || r == 3; got != want {
			t.Errorf("register %d: %v", r, got)
		}
		if (code.Func{}).Reference(r) || (code.Func{Refs: []bool{}, Params: 3}).Reference(r) {
			t.Errorf("register %d of a function without registers", r)
		}
		if (code.Func{Refs: make([]bool, 0, 8)}).Reference(r) || (code.Func{Refs: []bool{true, true}[:1]}).Reference(r) != (r == 0) {
			t.Errorf("register %d in the spare room", r)
		}
	}
}
