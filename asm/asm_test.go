package asm_test

import (
	"fmt"
	"math"
	"strings"
	"testing"

	"derrick/asm"
	"derrick/code"
)

// edges are numbers of all kinds.
var edges = []int{0, 1, -1, 2, -2, 7, 9, 10, -10, 11, 56, 57, 99, 100, -100, 1000000, math.MaxInt32, math.MinInt32, math.MaxInt32 + 1, 999999999999999999, -1000000000000000000, math.MaxInt - 1, math.MaxInt, math.MinInt, math.MinInt + 1}

// op is an instruction's name, and what of it is used.
type op struct {
	name, uses string
}

// ops are all that there are, at their numbers, written off the chapters: those of layer 8 for the numbers, of layer 18 for what is used.
var ops = []op{
	1: {"const", "A B"},
	2: {"text", "A B"},
	3: {"direct", "A B"},
	4: {"closure", "A B List"},
	5: {"move", "A B"},
	6: {"getglobal", "A B"}, 7: {"setglobal", "A B"},
	8: {"makebox", "A B"}, 9: {"getbox", "A B"}, 10: {"setbox", "A B"},
	11: {"neg", "A B"}, 12: {"not", "A B"},
	13: {"add", "A B C"}, 14: {"sub", "A B C"}, 15: {"mul", "A B C"}, 16: {"div", "A B C"}, 17: {"mod", "A B C"}, 18: {"lt", "A B C"}, 19: {"le", "A B C"},
	20: {"eq", "A B C"}, 21: {"ne", "A B C"},
	22: {"join", "A B C"}, 23: {"texteq", "A B C"}, 24: {"textlt", "A B C"}, 25: {"textle", "A B C"},
	26: {"jump", "A"}, 27: {"unless", "A B"},
	28: {"newobject", "A B"},
	29: {"getfield", "A B C"}, 30: {"setfield", "A B C"},
	31: {"list", "A B List"},
	32: {"makeslice", "A B C"}, 33: {"makechan", "A B C"},
	34: {"index", "A B C"}, 35: {"setindex", "A B C"}, 36: {"textindex", "A B C"},
	37: {"slice", "A B C D"}, 38: {"subtext", "A B C D"},
	39: {"append", "A B C List"},
	40: {"textlen", "A B"}, 41: {"slicelen", "A B"}, 42: {"slicecap", "A B"}, 43: {"chanlen", "A B"}, 44: {"chancap", "A B"},
	45: {"call", "A B List"},
	46: {"go", "B List"}, 47: {"defer", "B List"},
	48: {"return", "A"},
	49: {"send", "A B"}, 50: {"recv", "A B"}, 51: {"close", "A"},
	52: {"select", "A B List"},
	53: {"print", "A B"},
	54: {"panic", "A"}, 55: {"recover", "A"},
	56: {"yield", ""},
}

// noOps are numbers of no instruction.
var noOps = []int{0, -1, -2, -52, -56, 57, 58, 64, 100, 128, 255, 256, 257, 1<<16 + 1, 1<<32 + 1, 1<<32 + 56, -1<<32 + 1, math.MaxInt32, math.MinInt32, math.MaxInt, math.MaxInt - 1, math.MinInt, math.MinInt + 1}

func prints(t *testing.T, p code.Program, want string) {
	t.Helper()
	if s := asm.Print(p); s != want {
		t.Errorf("%+v:\n%q\nnot\n%q", p, s, want)
	}
}

// inFunc is a program of one function of some instructions.
func inFunc(list ...code.Instr) code.Program {
	return code.Program{Funcs: []code.Func{{Name: "f", Code: list}}, Main: 1}
}

// around is what is printed of inFunc, with its instructions' lines.
func around(lines string) string {
	return "func 1 f params 0 captures 0 registers \n" + lines + "main 1\n"
}

func TestTheChaptersExample(t *testing.T) {
	prints(t, code.Program{
		Texts: []string{"a"},
		Funcs: []code.Func{{Name: "main", Refs: []bool{true}, Code: []code.Instr{{Op: code.Text, A: 0, B: 0}, {Op: code.Return, A: -1}}}},
		Main:  1,
	}, "text 0 \"a\"\nfunc 1 main params 0 captures 0 registers r\n\t0 text 0 0\n\t1 return -1\nmain 1\n")
}

func TestNames(t *testing.T) {
	for n, o := range ops {
		if n > 0 && asm.Name(n) != o.name {
			t.Errorf("%d: %q, not %q", n, asm.Name(n), o.name)
		}
	}
	if len(ops) != code.Yield+1 {
		t.Errorf("%d ops are written off", len(ops))
	}
	for _, n := range noOps {
		if s := asm.Name(n); s != "?" {
			t.Errorf("%d: %q", n, s)
		}
	}
	for n := -70000; n <= 70000; n++ {
		if there := n > 0 && n < len(ops); there != (asm.Name(n) != "?") {
			t.Errorf("%d: %q", n, asm.Name(n))
		}
	}
}

// TestUses asks of each op what is shown of it: that what it doesn't use never is, though the instruction bears it.
func TestUses(t *testing.T) {
	full := code.Instr{A: 11, B: 22, C: 33, D: 44, List: []int{55, 66, 77}}
	for n, o := range ops {
		if n == 0 {
			continue
		}
		for _, x := range []struct {
			in   code.Instr
			want *strings.Replacer
		}{
			{full, strings.NewReplacer("A", "11", "B", "22", "C", "33", "D", "44", "List", "[55 66 77]")},
			{code.Instr{}, strings.NewReplacer("A", "0", "B", "0", "C", "0", "D", "0", "List", "[]")},
			{code.Instr{A: -1, B: -1, C: -1, D: -1, List: []int{}}, strings.NewReplacer("A", "-1", "B", "-1", "C", "-1", "D", "-1", "List", "[]")},
			{code.Instr{A: math.MinInt, B: math.MaxInt, C: math.MinInt + 1, D: -7, List: []int{0}},
				strings.NewReplacer("A", "-9223372036854775808", "B", "9223372036854775807", "C", "-9223372036854775807", "D", "-7", "List", "[0]")},
			{code.Instr{D: 1, List: []int{-3, 4}}, strings.NewReplacer("A", "0", "B", "0", "C", "0", "D", "1", "List", "[-3 4]")},
		} {
			x.in.Op = n
			want := "\t0 " + o.name
			if o.uses != "" {
				want += " " + x.want.Replace(o.uses)
			}
			prints(t, inFunc(x.in), around(want+"\n"))
		}
	}
}

func TestOpsThatAreNone(t *testing.T) {
	for _, n := range noOps {
		prints(t, inFunc(code.Instr{Op: n}), around("\t0 ?\n"))
		prints(t, inFunc(code.Instr{Op: n, A: 1, B: 2, C: 3, D: 4, List: []int{5}}, code.Instr{Op: code.Yield}), around("\t0 ?\n\t1 yield\n"))
	}
}

func TestNumbersInEveryPlace(t *testing.T) {
	for _, n := range edges {
		d := fmt.Sprint(n)
		prints(t, code.Program{Main: n}, "main "+d+"\n")
		prints(t, code.Program{Funcs: []code.Func{{Params: n}}}, "func 1 - params "+d+" captures 0 registers \nmain 0\n")
		prints(t, code.Program{Funcs: []code.Func{{Captures: n}}}, "func 1 - params 0 captures "+d+" registers \nmain 0\n")
		prints(t, inFunc(code.Instr{Op: code.Slice, A: n}), around("\t0 slice "+d+" 0 0 0\n"))
		prints(t, inFunc(code.Instr{Op: code.Slice, B: n}), around("\t0 slice 0 "+d+" 0 0\n"))
		prints(t, inFunc(code.Instr{Op: code.Slice, C: n}), around("\t0 slice 0 0 "+d+" 0\n"))
		prints(t, inFunc(code.Instr{Op: code.Slice, D: n}), around("\t0 slice 0 0 0 "+d+"\n"))
		prints(t, inFunc(code.Instr{Op: code.Go, A: 5, B: n, List: []int{n}}), around("\t0 go "+d+" ["+d+"]\n"))
		prints(t, inFunc(code.Instr{Op: code.Append, List: []int{n, 1, n}}), around("\t0 append 0 0 0 ["+d+" 1 "+d+"]\n"))
	}
}

func TestFunctions(t *testing.T) {
	for _, x := range []struct {
		f    code.Func
		want string // behind the number
	}{
		{code.Func{}, "- params 0 captures 0 registers "},
		{code.Func{Result: true}, "- params 0 captures 0 registers  result"},
		{code.Func{Name: "f", Refs: []bool{}}, "f params 0 captures 0 registers "},
		{code.Func{Name: "f", Refs: []bool{false}}, "f params 0 captures 0 registers n"},
		{code.Func{Name: "f", Refs: []bool{true}, Result: true}, "f params 0 captures 0 registers r result"},
		{code.Func{Name: "f", Refs: []bool{true, false, false, true, true}, Params: 2, Captures: 1, Result: true}, "f params 2 captures 1 registers rnnrr result"},
		{code.Func{Refs: []bool{true, true, false}[:2], Params: 9, Captures: -9}, "- params 9 captures -9 registers rr"},
		{code.Func{Name: "-"}, "- params 0 captures 0 registers "},
		{code.Func{Name: "result", Params: 1}, "result params 1 captures 0 registers "},
		{code.Func{Name: " a\"\\\x00\xff%d"}, " a\"\\\x00\xff%d params 0 captures 0 registers "},
		{code.Func{Name: "x\ny"}, "x\ny params 0 captures 0 registers "},
	} {
		prints(t, code.Program{Funcs: []code.Func{x.f}}, "func 1 "+x.want+"\nmain 0\n")
		x.f.Code = []code.Instr{{Op: code.Yield}, {Op: code.Jump}}
		prints(t, code.Program{Funcs: []code.Func{{Name: "a"}, x.f, x.f}, Main: 2},
			"func 1 a params 0 captures 0 registers \nfunc 2 "+x.want+"\n\t0 yield\n\t1 jump 0\nfunc 3 "+x.want+"\n\t0 yield\n\t1 jump 0\nmain 2\n")
	}
}

func TestManyLines(t *testing.T) {
	p := code.Program{Texts: make([]string, 123), Funcs: make([]code.Func, 1234), Main: 1234}
	var want strings.Builder
	for i := range p.Texts {
		fmt.Fprintf(&want, "text %d \"\"\n", i)
	}
	p.Funcs[77] = code.Func{Code: make([]code.Instr, 1111), Refs: make([]bool, 2222)}
	for i := range p.Funcs {
		fmt.Fprintf(&want, "func %d - params 0 captures 0 registers %s\n", i+1, strings.Repeat("n", len(p.Funcs[i].Refs)))
		for k := range p.Funcs[i].Code {
			fmt.Fprintf(&want, "\t%d ?\n", k)
		}
	}
	prints(t, p, want.String()+"main 1234\n")
}

func TestTexts(t *testing.T) {
	every := ""
	for n := range 256 {
		one, want := string([]byte{byte(n)}), string([]byte{byte(n)})
		switch n {
		case 10:
			want = `\n`
		case 34:
			want = `\"`
		case 92:
			want = `\\`
		}
		prints(t, code.Program{Texts: []string{one}}, "text 0 \""+want+"\"\nmain 0\n")
		prints(t, code.Program{Texts: []string{"n" + one + one + "n"}}, "text 0 \"n"+want+want+"n\"\nmain 0\n")
		every += want
	}
	all := make([]byte, 256)
	for n := range all {
		all[n] = byte(n)
	}
	prints(t, code.Program{Texts: []string{string(all), "", string(all)}, Main: -1}, "text 0 \""+every+"\"\ntext 1 \"\"\ntext 2 \""+every+"\"\nmain -1\n")
	for text, want := range map[string]string{
		"":                          ``,
		" ":                         ` `,
		"a\nb":                      `a\nb`,
		"\\n":                       `\\n`,
		"\\\"\n":                    `\\\"\n`,
		"\r\t\x00":                  "\r\t\x00",
		"ä€\u2028":                  "ä€\u2028",
		strings.Repeat("\n\"", 999): strings.Repeat(`\n\"`, 999),
	} {
		prints(t, code.Program{Texts: []string{"x", text}}, "text 0 \"x\"\ntext 1 \""+want+"\"\nmain 0\n")
	}
}

func TestProgramsWithLittleInThem(t *testing.T) {
	prints(t, code.Program{}, "main 0\n")
	prints(t, code.Program{Texts: []string{}, Globals: []bool{}, Structs: [][]bool{}, Funcs: []code.Func{}, Main: 3}, "main 3\n")
	prints(t, code.Program{Globals: []bool{true, false}, Structs: [][]bool{{true}, nil}}, "main 0\n")
	prints(t, code.Program{Texts: []string{""}}, "text 0 \"\"\nmain 0\n")
	prints(t, code.Program{Funcs: []code.Func{{}}, Main: math.MinInt}, "func 1 - params 0 captures 0 registers \nmain -9223372036854775808\n")
	prints(t, code.Program{Funcs: []code.Func{{}, {}}, Main: 3}, "func 1 - params 0 captures 0 registers \nfunc 2 - params 0 captures 0 registers \nmain 3\n")
}
