package drive_test

import (
	"bytes"
	"math/rand"
	"reflect"
	"strings"
	"testing"

	"derrick/api"
	"derrick/check"
	"derrick/code"
	"derrick/drive"
	"derrick/lex"
	"derrick/lower"
	"derrick/parse"
	"derrick/print"
	"derrick/vm"
	"derrick/walk"
)

// compiled are the bytes of a right source's program.
func compiled(t *testing.T, src string) []byte {
	t.Helper()
	b, fault := drive.Compile(src)
	if fault != (api.Fault{}) || len(b) == 0 {
		t.Fatalf("%s\n%v", src, fault)
	}
	return b
}

// loaded is the program that bytes are.
func loaded(t *testing.T, b []byte) code.Program {
	t.Helper()
	p, ok := drive.Load(b)
	if !ok {
		t.Fatalf("the bytes are no program: %v", b)
	}
	return p
}

// TestCompiledWorks reads the bytes of sources back: the program does on both machines what is run of the source itself.
func TestCompiledWorks(t *testing.T) {
	for _, w := range works {
		b := compiled(t, w.src)
		p := loaded(t, b)
		for seed := range 4 {
			script, force := schedule(rand.New(rand.NewSource(int64(seed)))), upTo(seed*50)
			for _, fuel := range []int{0, 1, 50, 700, enough} {
				o, fault := drive.Walk(w.src, script, fuel)
				if got, _ := walk.Run(p, script, fuel); got != o || fault != (api.Fault{}) {
					t.Errorf("%s\n%v, fuel %d: %+v, not %+v %+v", w.src, script, fuel, got, o, fault)
				}
				for _, words := range []int{100, 128, 1000, great} {
					c := api.Config{Script: script, Force: force, Words: words, Fuel: fuel}
					r, fault := drive.Run(w.src, c)
					if o, told := vm.Run(p, c); (drive.Report{Outcome: o, Told: told}) != r || fault != (api.Fault{}) {
						t.Errorf("%s\n%+v: %+v %+v, not %+v %+v", w.src, c, o, told, r, fault)
					}
				}
			}
		}
	}
}

// TestCompiledIsTheProgram holds the bytes against layers 5, 8 and 9, and what is asked twice against itself.
func TestCompiledIsTheProgram(t *testing.T) {
	for _, w := range works {
		b := compiled(t, w.src)
		unit, _ := check.Check(w.src)
		if want := code.Encode(lower.Program(unit)); !bytes.Equal(b, want) {
			t.Errorf("%s\n%v, not %v", w.src, b, want)
		}
		for range 5 {
			if again := compiled(t, w.src); !bytes.Equal(again, b) {
				t.Errorf("%s\n%v, then %v", w.src, b, again)
			}
		}
		if p := loaded(t, b); p.Main != unit.Main || len(p.Funcs) != len(unit.Funcs) || len(p.Structs) != len(unit.Structs) || !bytes.Equal(code.Encode(p), b) {
			t.Errorf("%s\n%+v", w.src, p)
		}
	}
}

// TestCompileFaults compiles sources with a fault of each stage.
func TestCompileFaults(t *testing.T) {
	stages := map[int]int{}
	for _, x := range faults {
		stages[x.fault.Stage]++
		b, fault := drive.Compile(x.src)
		if len(b) != 0 || fault != x.fault {
			t.Errorf("%.200q: %v %+v, not %+v", x.src, b, fault, x.fault)
		}
		if _, want := check.Check(x.src); want != x.fault {
			t.Errorf("%.200q: layer 5 says %+v", x.src, want)
		}
	}
	for stage := api.TooBig; stage <= api.Types; stage++ {
		if stages[stage] < 3 {
			t.Errorf("%d sources of stage %d", stages[stage], stage)
		}
	}
}

// TestTheGreatestSources are as big and as deep as may be, and one more of what is bounded.
func TestTheGreatestSources(t *testing.T) {
	for _, x := range []refused{
		{padded("func main() { }", api.MaxSource), api.Fault{}},
		{padded("func main() { }", api.MaxSource+1), api.Fault{Stage: api.TooBig, At: api.MaxSource}},
		{"func main() " + nested("{", "", "}", api.MaxNest), api.Fault{}},
		{"func main() " + nested("{", "", "}", api.MaxNest+1), api.Fault{Stage: api.TooDeep, At: 12 + api.MaxNest}},
		{"func main() { print(" + strings.Repeat("- ", 4000) + "1) }", api.Fault{}},
		{"func main() { print(!" + strings.Repeat("!", 8000) + "true) }", api.Fault{}},
		{"func main() { print(1" + strings.Repeat("+1", 4000) + ") }", api.Fault{}},
		{"func main() { " + strings.Repeat("if false { } else ", 450) + "{ print(1) } }", api.Fault{}},
		{"func main() { print(" + strings.Repeat("9", api.MaxDigits) + ") }", api.Fault{}},
		{"func main() { " + strings.Repeat("n", api.MaxName) + " := 1 }", api.Fault{}},
		{"func main() { print(\"" + strings.Repeat("t", api.MaxText) + "\") }", api.Fault{}},
		{"func main() {\n" + strings.Repeat("func() { }()\n", api.MaxFuncs-1) + "}", api.Fault{}},
		{"func main() {\n" + strings.Repeat("func() { }()\n", api.MaxFuncs) + "}", api.Fault{Stage: api.Types}},
		{"func main() {\n" + strings.Repeat("if true { var x int }\n", api.MaxVars) + "}", api.Fault{}},
		{"func main() {\n" + strings.Repeat("if true { var x int }\n", api.MaxVars+1) + "}", api.Fault{Stage: api.Types}},
		{"var x " + strings.Repeat("[]", 98) + "bool\nfunc main() { }", api.Fault{}},
		{"var x " + strings.Repeat("[]", 99) + "bool\nfunc main() { }", api.Fault{Stage: api.Types}},
		{"var x " + strings.Repeat("[]", 4000) + "bool\nfunc main() { }", api.Fault{Stage: api.Types}},
	} {
		b, fault := drive.Compile(x.src)
		if fault != x.fault || (len(b) > 0) != (fault == api.Fault{}) {
			t.Errorf("%.60q: %v, not %v", x.src, fault, x.fault)
			continue
		}
		if fault == (api.Fault{}) {
			o, _ := drive.Walk(x.src, nil, enough)
			r, _ := drive.Run(x.src, api.Config{Words: great, Fuel: enough})
			if o.State != api.Exited || r.Outcome != o {
				t.Errorf("%.60q: %+v %+v", x.src, o, r)
			}
			loaded(t, b)
		}
	}
}

// respaced is a source of the same tokens, with other blanks, line ends and comments between them.
func respaced(chance *rand.Rand, src string) string {
	tokens, _ := lex.Scan(src)
	var out strings.Builder
	for k, x := range tokens {
		switch {
		case x.Kind == api.Str:
			out.WriteString(quoted(x.Text))
		case x.Kind == api.Mark && x.Text == ";" && k+1 < len(tokens) && tokens[k+1].Kind == api.End:
			out.WriteString("\n") // behind the last line there is one anyway
		default:
			out.WriteString(x.Text)
		}
		out.WriteString(strings.Repeat([]string{" ", "\t"}[chance.Intn(2)], 1+chance.Intn(3)))
		if !endsALine(x) && chance.Intn(3) == 0 {
			out.WriteString([]string{"\n", "// \"func {\n", "//\n \n//x\n"}[chance.Intn(3)])
		}
	}
	return out.String()
}

// endsALine tells whether a line end behind a token is a semicolon.
func endsALine(x api.Token) bool {
	switch x.Kind {
	case api.Name, api.Int, api.Str:
		return true
	case api.Word:
		return strings.Contains(" break continue fallthrough return true false nil int bool string ", " "+x.Text+" ")
	case api.Mark:
		return strings.Contains(" ++ -- ) ] } ", " "+x.Text+" ")
	}
	return false
}

func quoted(text string) string {
	return `"` + strings.NewReplacer("\\", "\\\\", "\"", "\\\"", "\n", "\\n").Replace(text) + `"`
}

// TestPlacesLeaveNoTrace writes sources otherwise, so that their trees are the same but for their places: the bytes are the same.
func TestPlacesLeaveNoTrace(t *testing.T) {
	chance := rand.New(rand.NewSource(1))
	written := 0
	for _, w := range works {
		b := compiled(t, w.src)
		tree, _ := parse.Parse(w.src)
		others := []string{print.File(tree), "\n\n// first\n" + w.src, w.src + "\n\t// last\n\n", strings.ReplaceAll(w.src, "\n", " // \n"), strings.ReplaceAll(w.src, "\n", "\n\n\n"), strings.ReplaceAll(w.src, "\t", "")}
		for range 20 {
			others = append(others, respaced(chance, w.src))
		}
		for _, other := range others {
			otherTree, fault := parse.Parse(other)
			if fault.Stage == api.TooBig || fault.Stage == api.TooDeep {
				continue
			}
			if fault != (api.Fault{}) || !reflect.DeepEqual(parse.Bare(otherTree), parse.Bare(tree)) {
				t.Fatalf("the test writes another tree: %v\n%s", fault, other)
			}
			if !bytes.Equal(compiled(t, other), b) {
				t.Errorf("%s\nand\n%s\nhave other bytes", w.src, other)
			}
			written++
		}
	}
	if written < 20*len(works) {
		t.Errorf("%d sources", written)
	}
}

// TestSameTrees has sources that are written otherwise by what leaves no trace in a tree.
func TestSameTrees(t *testing.T) {
	for _, pair := range [][2]string{
		{"func main() { }", "func main() {;;;\n;}"},
		{"func main() { }", "\tfunc main(){}//"},
		{"func main() { x := 1 + 2*3 }", "func main() { x := ((1) + ((2 * 3))) }"},
		{"func main() { print(-1, !true) }", "func main() { print((-(1)), (!(true))) }"},
		{"type T struct { n int; s string; }\nfunc main() { p := &T{n: 1, s: \"a\"} }", "type T struct {\nn int\ns string\n}\nfunc main() {\np := (&T{\nn: 1,\ns: \"a\",\n})\n}\n"},
		{"func main() { a := []int{1, 2}; if len(a) == 2 { return }; a[0]++ }", "func main() {\na := []int{\n1,\n2,\n};\n;\nif (len(a)) == 2 {\nreturn\n}\n\n;a[0]++;\n}"},
		{"func main() { f := func(n int) int { return n }; f(1); (f)(2) }", "func main() { f := (func(n int) int {\n\nreturn n\n})\nf(1)\nf(2) }"},
		{"func main() { switch 1 { case 1: print(1); default: } }", "func main() {\nswitch 1 {\ncase 1:\n;\nprint(1)\n\n\ndefault:\n;;\n}\n}"},
		{"func main() { for ; ; { } }", "func main() { for { } }"},
		{"func main() { for true { break } }", "func main() { for ; true; { break } }"},
	} {
		if !bytes.Equal(compiled(t, pair[0]), compiled(t, pair[1])) {
			t.Errorf("%q and %q have other bytes", pair[0], pair[1])
		}
	}
}

// TestOtherPrograms has sources that don't do the same: they have other bytes.
func TestOtherPrograms(t *testing.T) {
	seen := map[string]string{}
	sources := []string{"func main() { print(1) }", "func main() { print(2) }", "func main() { print(-1) }", "func main() { print(true) }", "func main() { print(\"1\") }", "func main() { print(1 + 2) }", "func main() { print(1); print(2) }",
		"func main() { print(2); print(1) }", "func main() { for { } }", "var x int\nfunc main() { }", "var x *T\ntype T struct { }\nfunc main() { }", "func f() { }\nfunc main() { }", "func g() { }\nfunc main() { }", "func main() { }\nfunc f() { }"}
	for _, w := range works {
		sources = append(sources, w.src)
	}
	for _, src := range sources {
		b := string(compiled(t, src))
		if other, ok := seen[b]; ok {
			t.Errorf("%q and %q have the same bytes", src, other)
		}
		seen[b] = src
	}
}
