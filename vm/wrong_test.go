package vm_test

import (
	"math"
	"math/rand"
	"reflect"
	"slices"
	"strings"
	"testing"

	"derrick/api"
	"derrick/code"
	"derrick/vm"
)

// program is one of a single function, which is main.
func program(registers int, instrs ...code.Instr) code.Program {
	return code.Program{Funcs: []code.Func{{Refs: make([]bool, registers), Code: instrs}}, Main: 1}
}

// copyOf is a program that shares nothing with another.
func copyOf(p code.Program) code.Program {
	q, ok := code.Decode(code.Encode(p))
	if !ok {
		panic("bytes of a program are none")
	}
	return q
}

// endures runs a program that comes of no source: whatever it does, it panics at no fuel and in no heap, does the same each time, and keeps to what holds of fuel.
func endures(t *testing.T, p code.Program, script []int, fuel int) api.Outcome {
	t.Helper()
	kept, keptScript := copyOf(p), slices.Clone(script)
	c := api.Config{Script: script, Words: 2048, Fuel: fuel, Force: []int{1, 3, 2, 4}}
	o, d := vm.Run(p, c)
	if !reflect.DeepEqual(copyOf(p), kept) || !slices.Equal(script, keptScript) {
		t.Fatalf("the program was changed, or the script: %+v %v", kept, keptScript)
	}
	if again, dAgain := vm.Run(p, c); again != o || dAgain != d {
		t.Fatalf("%+v\n%+v %+v, then %+v %+v", p, o, d, again, dAgain)
	}
	if o.State == api.Running && (o.Code != 0 || o.Why != "") || d.Reached > d.Blocks {
		t.Fatalf("%+v\n%+v %+v", p, o, d)
	}
	c.Fuel /= 2
	less, _ := vm.Run(p, c)
	if !strings.HasPrefix(o.Output, less.Output) || less.State != api.Running && less != o {
		t.Fatalf("%+v\n%+v, with less fuel %+v", p, o, less)
	}
	for _, c.Words = range []int{128, 256} {
		c.Fuel, c.Force = fuel, nil
		vm.Run(p, c)
	}
	return o
}

// oddNumbers are numbers that are mostly no register, instruction, function, text or struct.
var oddNumbers = []int{0, 1, -1, 2, 3, -2, 7, 60, 1000, math.MaxInt, math.MinInt, math.MaxInt - 1, math.MinInt + 1}

func TestNoMain(t *testing.T) {
	one := program(1, code.Instr{Op: code.Print})
	for _, main := range oddNumbers {
		one.Main = main
		o := endures(t, one, nil, 100)
		if isThere := main == 1; isThere != (o == api.Outcome{State: api.Exited, Output: "0"}) {
			t.Errorf("main %d: %+v", main, o)
		}
		endures(t, code.Program{Main: main}, []int{1, 1}, 100)
		if o, d := vm.Run(one, api.Config{Words: 128}); (o != api.Outcome{} || d != vm.Told{}) {
			t.Errorf("main %d, no fuel: %+v %+v", main, o, d)
		}
	}
}

// TestOddNumbers puts odd numbers into each field of each instruction, and a list of them.
func TestOddNumbers(t *testing.T) {
	for op := -1; op <= code.Yield+2; op++ {
		for _, x := range oddNumbers {
			for _, y := range oddNumbers {
				for _, registers := range []int{0, 1, 4} {
					i := code.Instr{Op: op, A: x, B: y, C: x, D: y, List: oddNumbers}
					endures(t, program(registers, i, code.Instr{Op: code.Print}), []int{0, 3, 1}, 50)
					i = code.Instr{Op: op, A: y, B: x, C: y, D: x}
					endures(t, program(registers, i), nil, 50)
				}
			}
		}
	}
}

// things makes something of each kind in the registers from 0 on: numbers, texts, boxes, objects, slices, channels, functions; the last one is left zero.
var things = []code.Instr{
	{Op: code.Const, A: 0, B: 1},
	{Op: code.Const, A: 1, B: -5},
	{Op: code.Text, A: 2, B: 0},
	{Op: code.MakeBox, A: 3, B: 2},
	{Op: code.NewObject, A: 4, B: 0},
	{Op: code.List, A: 5, B: 1, List: []int{2, 4, 0}},
	{Op: code.MakeChan, A: 6, B: 0},
	{Op: code.Direct, A: 7, B: 2},
	{Op: code.Closure, A: 8, B: 2, List: []int{3, 0, 5}},
}

const thingCount = 10

// TestOddThings hands each kind of thing to each instruction, in each place.
func TestOddThings(t *testing.T) {
	callee := code.Func{Refs: make([]bool, 3), Params: 1, Captures: 1, Result: true, Code: []code.Instr{
		{Op: code.SetBox, A: 1, B: 0}, {Op: code.Recover, A: 2}, {Op: code.Print, A: 2, B: 2}, {Op: code.Return, A: 0},
	}}
	for op := 0; op <= code.Yield+1; op++ {
		for b := range thingCount {
			for c := range thingCount {
				p := code.Program{Texts: []string{"text"}, Globals: []bool{true, false}, Structs: [][]bool{{true, false}}, Main: 1}
				i := code.Instr{Op: op, A: b, B: c, C: b, D: c, List: []int{c, b, c, b}}
				code1 := slices.Concat(things, []code.Instr{i, {Op: code.Print, A: b}, {Op: code.Print, A: b, B: 2}, {Op: op, A: c, B: b, C: c, D: -1}, {Op: op, A: -1, B: b, C: -1, D: c, List: []int{1, b, c, 12, 2, c, b, 13}}})
				p.Funcs = []code.Func{{Refs: make([]bool, thingCount), Code: code1}, callee}
				endures(t, p, []int{0, 1, 3, 1}, 200)
			}
		}
	}
}

// TestOddFunctions has functions that take other numbers of arguments and boxes than they are given.
func TestOddFunctions(t *testing.T) {
	for _, params := range oddNumbers {
		for _, captures := range oddNumbers {
			for registers := range 4 {
				callee := code.Func{Refs: make([]bool, registers), Params: params, Captures: captures, Code: []code.Instr{{Op: code.Print, A: 1}, {Op: code.Return, A: 2}}}
				p := program(3, code.Instr{Op: code.Closure, A: 0, B: 2, List: []int{0, 1, 2, 9}}, code.Instr{Op: code.Call, A: 1, B: 0, List: []int{0, 1, 2, -9}},
					code.Instr{Op: code.Go, B: 0}, code.Instr{Op: code.Defer, B: 0, List: []int{5}}, code.Instr{Op: code.Recv})
				p.Funcs = append(p.Funcs, callee)
				if o := endures(t, p, nil, 100); o.Why != "fatal: all goroutines are asleep" {
					t.Errorf("%+v", o)
				}
			}
		}
	}
}

// TestWaysOutOfTheCode has jumps to where nothing stands: the function is over there, without a value.
func TestWaysOutOfTheCode(t *testing.T) {
	for _, to := range []int{-1, -7, 6, 100, math.MaxInt, math.MinInt} {
		for _, jump := range []code.Instr{
			{Op: code.Jump, A: to}, {Op: code.Unless, A: to, B: 1}, {Op: code.Unless, A: to, B: 50}, {Op: code.Select, B: max(to, 6)}, {Op: code.Select, B: -1, List: []int{2, 2, 1, to}},
		} {
			main := []code.Instr{{Op: code.MakeChan, A: 2, B: 3}, {Op: code.Const, A: 0, B: 4}, {Op: code.Direct, A: 1, B: 2}, {Op: code.Call, A: 0, B: 1}, {Op: code.Print, A: 0}}
			callee := code.Func{Refs: make([]bool, 4), Code: []code.Instr{{Op: code.Const, A: 3, B: 1}, {Op: code.MakeChan, A: 2, B: 3}, jump, {Op: code.Return, A: 3}}}
			p := program(4, main...)
			p.Funcs = append(p.Funcs, callee)
			o := endures(t, p, nil, 100)
			if want := (api.Outcome{State: api.Exited, Output: "0"}); jump.Op != code.Select && o != want {
				t.Errorf("%+v: %+v", jump, o)
			}
		}
	}
}

// TestADefaultAtTheBeginning goes back to the first instruction.
func TestADefaultAtTheBeginning(t *testing.T) {
	p := program(1, code.Instr{Op: code.Print}, code.Instr{Op: code.Select, B: 0, List: []int{1, 0, 0, 0}})
	if o := endures(t, p, nil, 10); o != (api.Outcome{Output: "00000"}) {
		t.Errorf("%+v", o)
	}
}

// TestTextsOfAnyBytes holds texts against each other that no source can name.
func TestTextsOfAnyBytes(t *testing.T) {
	p := program(3)
	p.Texts = []string{"\x80", "a", "\xff\x00", "\xff", "\x00", ""}
	want := ""
	for x, left := range p.Texts {
		for y, right := range p.Texts {
			for op, holds := range map[int]bool{code.TextLt: left < right, code.TextLe: left <= right, code.TextEq: left == right} {
				p.Funcs[0].Code = []code.Instr{{Op: code.Text, A: 0, B: x}, {Op: code.Text, A: 1, B: y}, {Op: op, A: 2, B: 0, C: 1}, {Op: code.Print, A: 2, B: 1}, {Op: code.Join, A: 0, B: 0, C: 1}, {Op: code.Print, A: 0, B: 2}}
				want = "false" + left + right
				if holds {
					want = "true" + left + right
				}
				if o, _ := vm.Run(p, api.Config{Words: 128, Fuel: 100}); o != (api.Outcome{State: api.Exited, Output: want}) {
					t.Errorf("%q %q: %+v", left, right, o)
				}
			}
		}
	}
}

func TestOddTexts(t *testing.T) {
	p := program(2)
	p.Texts = []string{strings.Repeat("x", api.MaxSlots+1), strings.Repeat("y", api.MaxOutput+1)}
	for _, k := range []int{0, 1} {
		for _, last := range []code.Instr{{Op: code.Join, A: 1, B: 0, C: 1}, {Op: code.Print, A: 0, B: 2}, {Op: code.SubText, A: 1, B: 0, C: -1, D: -1}, {Op: code.Panic, A: 0}} {
			p.Funcs[0].Code = []code.Instr{{Op: code.Text, A: 0, B: k}, last}
			endures(t, p, nil, 100000)
		}
	}
}

// anyProgram is a program by chance.
func anyProgram(chance *rand.Rand) code.Program {
	number := func() int {
		if chance.Intn(8) == 0 {
			return oddNumbers[chance.Intn(len(oddNumbers))]
		}
		return chance.Intn(12) - 1
	}
	flags := func() []bool {
		all := make([]bool, chance.Intn(10))
		for k := range all {
			all[k] = chance.Intn(2) == 0
		}
		return all
	}
	p := code.Program{Texts: []string{"", "a", "bcd"}[:chance.Intn(4)], Globals: flags(), Structs: [][]bool{flags(), flags()}[:chance.Intn(3)], Main: 1}
	for range 1 + chance.Intn(4) {
		f := code.Func{Refs: flags(), Params: number(), Captures: number(), Code: slices.Clone(things)}
		for range chance.Intn(30) {
			i := code.Instr{Op: 1 + chance.Intn(code.Yield), A: number(), B: number(), C: number(), D: number()}
			for range chance.Intn(10) {
				i.List = append(i.List, number())
			}
			f.Code = append(f.Code, i)
		}
		p.Funcs = append(p.Funcs, f)
	}
	return p
}

func TestAnyPrograms(t *testing.T) {
	states := map[int]int{}
	for seed := range 6000 {
		chance := rand.New(rand.NewSource(int64(seed)))
		states[endures(t, anyProgram(chance), schedule(chance), 1+chance.Intn(3000)).State]++
	}
	if states[api.Running] < 100 || states[api.Exited] < 100 || states[api.Fatal] < 100 {
		t.Errorf("%v", states)
	}
}

// TestSpoiltPrograms changes a number here and there in programs that come of sources.
func TestSpoiltPrograms(t *testing.T) {
	for seed := range 600 {
		chance := rand.New(rand.NewSource(int64(seed)))
		src := written(chance, 20+seed%100)
		if src == "" {
			continue
		}
		p := compiled(t, src)
		for range 4 {
			q := copyOf(p)
			for range 1 + chance.Intn(4) {
				spoil(chance, &q)
			}
			endures(t, q, schedule(chance), 20000)
		}
	}
}

func spoil(chance *rand.Rand, p *code.Program) {
	f := &p.Funcs[chance.Intn(len(p.Funcs))]
	i := &f.Code[chance.Intn(len(f.Code))]
	x := oddNumbers[chance.Intn(len(oddNumbers))]
	if chance.Intn(2) == 0 {
		x = chance.Intn(max(1, len(f.Refs)))
	}
	switch chance.Intn(9) {
	case 0:
		i.Op = chance.Intn(code.Yield + 2)
	case 1:
		i.A = x
	case 2:
		i.B = x
	case 3:
		i.C = x
	case 4:
		i.D = x
	case 5:
		i.List = append(i.List, x)
	case 6:
		if len(i.List) > 0 {
			i.List[chance.Intn(len(i.List))] = x
		}
	case 7:
		f.Refs = f.Refs[:chance.Intn(len(f.Refs)+1)]
	case 8:
		f.Code = f.Code[:1+chance.Intn(len(f.Code))]
	}
}
