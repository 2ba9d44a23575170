package lower_test

import (
	"bytes"
	"reflect"
	"slices"
	"testing"

	"derrick/api"
	"derrick/check"
	"derrick/code"
	"derrick/lower"
	"derrick/types"
)

// uses says for each instruction what its fields are. n: a register of a number, r: of a reference, v: of either; N, V:
// that or -1; #: any number; b: 0 or 1; p: 0 to 2; t, f, g, s, k: the number of a text, function, global, struct, field; j: of
// an instruction, J: that or -1; of what isn't said: 0. Behind a blank what all of List is; s there: a select's.
var uses = map[int]string{
	code.Const: "n#", code.Text: "rt", code.Direct: "rf", code.Closure: "rf r", code.Move: "vv", code.GetGlobal: "vg", code.SetGlobal: "gv",
	code.MakeBox: "rv", code.GetBox: "vr", code.SetBox: "rv", code.Neg: "nn", code.Not: "nn",
	code.Add: "nnn", code.Sub: "nnn", code.Mul: "nnn", code.Div: "nnn", code.Mod: "nnn", code.Lt: "nnn", code.Le: "nnn", code.Eq: "nvv", code.Ne: "nvv",
	code.Join: "rrr", code.TextEq: "nrr", code.TextLt: "nrr", code.TextLe: "nrr", code.Jump: "j", code.Unless: "jn",
	code.NewObject: "rs", code.GetField: "vrk", code.SetField: "rkv", code.List: "rb v", code.MakeSlice: "rnb", code.MakeChan: "rnb",
	code.Index: "vrn", code.SetIndex: "rnv", code.TextIndex: "nrn", code.Slice: "rrNN", code.SubText: "rrNN", code.Append: "rrb v",
	code.TextLen: "nr", code.SliceLen: "nr", code.SliceCap: "nr", code.ChanLen: "nr", code.ChanCap: "nr",
	code.Call: "Vr v", code.Go: "0r v", code.Defer: "0r v", code.Return: "V", code.Send: "rv", code.Recv: "vr", code.Close: "r",
	code.Select: "0J s", code.Print: "vp", code.Panic: "r", code.Recover: "r", code.Yield: "",
}

// auditor holds a program against the unit that it comes of.
type auditor struct {
	*testing.T
	src  string
	unit api.Unit
	p    code.Program
	at   int // the function's number
	f    code.Func
}

func (a *auditor) fail(form string, args ...any) {
	a.Helper()
	a.Fatalf("%.3000s\nfunction %d: "+form, append([]any{a.src, a.at}, args...)...)
}

func unitOf(t *testing.T, src string) api.Unit {
	t.Helper()
	u, fault := check.Check(src)
	if fault != (api.Fault{}) {
		t.Fatalf("%.3000s\n%+v", src, fault)
	}
	return u
}

// sound makes a source's program, and asks it for all that can be told without running it.
func sound(t *testing.T, src string) (api.Unit, code.Program) {
	t.Helper()
	u := unitOf(t, src)
	a := &auditor{T: t, src: src, unit: u, p: lower.Program(u)}
	a.whole()
	for k, f := range a.p.Funcs {
		a.at, a.f = k+1, f
		a.head()
		a.counts()
		for _, i := range f.Code {
			a.instr(i)
		}
	}
	again := unitOf(t, src)
	if !reflect.DeepEqual(u, again) {
		a.fail("the unit was changed")
	}
	if !bytes.Equal(code.Encode(a.p), code.Encode(lower.Program(again))) {
		a.fail("made again it is another program")
	}
	return u, a.p
}

// each goes through a tree.
func each(n api.Node, do func(api.Node)) {
	do(n)
	for _, kid := range n.Kids {
		each(kid, do)
	}
}

func (a *auditor) whole() {
	named := map[string]int{}
	for _, f := range a.unit.Funcs {
		each(f.Body, func(n api.Node) {
			if n.Kind == api.EStr {
				named[n.Text]++
			}
		})
	}
	for k, text := range a.p.Texts {
		if named[text] == 0 && text != "" || slices.Contains(a.p.Texts[:k], text) {
			a.fail("the text %q", text)
		}
	}
	for text := range named {
		if text != "" && !slices.Contains(a.p.Texts, text) {
			a.fail("no text %q", text)
		}
	}
	var globals []bool
	for _, v := range a.unit.Vars {
		if v.Func == 0 {
			globals = append(globals, types.Reference(v.Type))
		}
	}
	if !slices.Equal(a.p.Globals, globals) || len(a.p.Structs) != len(a.unit.Structs) || len(a.p.Funcs) != len(a.unit.Funcs) || a.p.Main != a.unit.Main {
		a.fail("%v %v %d %d", a.p.Globals, a.p.Structs, len(a.p.Funcs), a.p.Main)
	}
	for k, s := range a.unit.Structs {
		var refs []bool
		for _, field := range s.Fields {
			refs = append(refs, types.Reference(field.Type))
		}
		if !slices.Equal(a.p.Structs[k], refs) {
			a.fail("struct %s: %v", s.Name, a.p.Structs[k])
		}
	}
}

// head asks for what a function is told to be.
func (a *auditor) head() {
	of := a.unit.Funcs[a.at-1]
	_, result, _ := types.Func(of.Type)
	captures := lower.Captures(a.unit, a.at)
	if a.f.Name != of.Name || a.f.Params != len(of.Params) || a.f.Captures != len(captures) || a.f.Result != (result != "") {
		a.fail("%+v", a.f)
	}
	for r, v := range of.Params {
		if a.f.Refs[r] != types.Reference(a.unit.Vars[v-1].Type) {
			a.fail("param %d", r)
		}
	}
	for r := range captures {
		if !a.f.Refs[a.f.Params+r] {
			a.fail("box %d", r)
		}
	}
	if last := a.f.Code[len(a.f.Code)-1].Op; last != code.Return {
		a.fail("ends with %d", last)
	}
	a.beginning()
}

// beginning asks that the boxed params are made when the function is called: ahead of its safepoint, and nothing else is.
func (a *auditor) beginning() {
	isYield := func(i code.Instr) bool { return i.Op == code.Yield }
	ahead := a.f.Code[:max(0, slices.IndexFunc(a.f.Code, isYield))]
	var boxed, made []int
	for r, v := range a.unit.Funcs[a.at-1].Params {
		if a.unit.Vars[v-1].Boxed {
			boxed = append(boxed, r)
		}
	}
	for _, i := range ahead {
		if i.Op != code.MakeBox {
			a.fail("begins with %+v", ahead)
		}
		made = append(made, i.B)
	}
	slices.Sort(made)
	if !slices.Equal(made, boxed) {
		a.fail("the params %v are boxed, not %v", made, boxed)
	}
}

// counts asks for as many of each instruction as the tree has reasons for.
func (a *auditor) counts() {
	want := map[int]int{code.Yield: 1}
	var functions []int
	nodes := 0
	isBoxed := func(v int) bool { return a.unit.Vars[v-1].Boxed }
	for _, v := range a.unit.Funcs[a.at-1].Params {
		if isBoxed(v) {
			want[code.MakeBox]++
		}
	}
	each(a.unit.Funcs[a.at-1].Body, func(n api.Node) {
		if n.Kind != api.NNone {
			nodes++
		}
		switch n.Kind {
		case api.SDefine, api.SVar, api.NParam:
			if isBoxed(n.Ref) {
				want[code.MakeBox]++
			}
		case api.EFunc:
			want[code.Closure]++
			functions = append(functions, n.Ref)
		case api.SFor:
			want[code.Yield]++
		case api.SGo:
			want[code.Yield]++
			want[code.Go]++
		}
	})
	got := map[int]int{}
	var closures []int
	for k, i := range a.f.Code {
		got[i.Op]++
		if i.Op == code.Closure {
			closures = append(closures, i.B)
		}
		if i.Op == code.Go && a.f.Code[k+1].Op != code.Yield {
			a.fail("no safepoint behind instruction %d", k)
		}
	}
	for _, op := range []int{code.MakeBox, code.Closure, code.Yield, code.Go} {
		if got[op] != want[op] {
			a.fail("%d of instruction %d, not %d", got[op], op, want[op])
		}
	}
	slices.Sort(closures)
	slices.Sort(functions)
	if !slices.Equal(closures, functions) {
		a.fail("closures of %v, not %v", closures, functions)
	}
	// What is captured for functions within has registers whatever the tree is.
	registers := max(4*nodes+8, a.f.Params+a.f.Captures+nodes)
	if len(a.f.Refs) > registers || len(a.f.Code) > 8*nodes+8 {
		a.fail("%d registers and %d instructions for %d nodes", len(a.f.Refs), len(a.f.Code), nodes)
	}
}

func (a *auditor) instr(i code.Instr) {
	use, ok := uses[i.Op]
	if !ok {
		a.fail("%+v", i)
	}
	fields, list := use, byte(0)
	if k := len(use) - 2; k > 0 && use[k] == ' ' {
		fields, list = use[:k], use[k+1]
	}
	for k, x := range []int{i.A, i.B, i.C, i.D} {
		as := byte('0')
		if k < len(fields) {
			as = fields[k]
		}
		if !a.holds(as, x) {
			a.fail("%+v: the field %d is no %c", i, k, as)
		}
	}
	switch {
	case list == 's':
		a.selects(i)
	case list == 0 && len(i.List) > 0:
		a.fail("%+v: a list", i)
	default:
		for _, x := range i.List {
			if !a.holds(list, x) {
				a.fail("%+v: the list", i)
			}
		}
	}
	a.kinds(i)
}

// within tells whether a number is one of so many, from the first on.
func within(x, first, count int) bool { return x >= first && x < first+count }

// holds tells whether a number is what it is used as.
func (a *auditor) holds(as byte, x int) bool {
	isRegister := within(x, 0, len(a.f.Refs))
	switch as {
	case '0':
		return x == 0
	case 'n':
		return isRegister && !a.f.Refs[x]
	case 'r':
		return isRegister && a.f.Refs[x]
	case 'v':
		return isRegister
	case 'N':
		return x == -1 || isRegister && !a.f.Refs[x]
	case 'V':
		return x == -1 || isRegister
	case 'b':
		return within(x, 0, 2)
	case 'p':
		return within(x, 0, 3)
	case 't':
		return within(x, 0, len(a.p.Texts))
	case 'f':
		return within(x, 1, len(a.p.Funcs))
	case 'g':
		return within(x, 0, len(a.p.Globals))
	case 's':
		return within(x, 0, len(a.p.Structs))
	case 'k':
		return slices.ContainsFunc(a.p.Structs, func(s []bool) bool { return within(x, 0, len(s)) })
	case 'j':
		return within(x, 0, len(a.f.Code))
	case 'J':
		return x == -1 || within(x, 0, len(a.f.Code))
	}
	return as == '#'
}

func (a *auditor) selects(i code.Instr) {
	if len(i.List)%4 != 0 {
		a.fail("%+v", i)
	}
	for k := 0; k < len(i.List); k += 4 {
		c := i.List[k:]
		if !within(c[0], 1, 2) || !a.holds('r', c[1]) || !a.holds('v', c[2]) || !a.holds('j', c[3]) {
			a.fail("%+v: comm %d", i, k/4)
		}
	}
}

// kinds asks whether references stay with references, and numbers with numbers.
func (a *auditor) kinds(i code.Instr) {
	ref := a.f.Reference
	allAre := func(want bool) bool {
		return !slices.ContainsFunc(i.List, func(r int) bool { return ref(r) != want })
	}
	ok := true
	switch i.Op {
	case code.Move:
		ok = ref(i.A) == ref(i.B)
	case code.GetGlobal:
		ok = ref(i.A) == a.p.Globals[i.B]
	case code.SetGlobal:
		ok = ref(i.B) == a.p.Globals[i.A]
	case code.Eq, code.Ne:
		ok = ref(i.B) == ref(i.C)
	case code.Print:
		ok = ref(i.A) == (i.B == 2)
	case code.List:
		ok = allAre(i.B == 1)
	case code.Append:
		ok = allAre(i.C == 1)
	case code.Direct:
		ok = a.unit.Funcs[i.B-1].Outer == 0
	case code.Closure:
		ok = a.unit.Funcs[i.B-1].Outer == a.at && len(i.List) == a.p.Funcs[i.B-1].Captures
	case code.Return:
		_, result, _ := types.Func(a.unit.Funcs[a.at-1].Type)
		ok = (i.A != -1) == a.f.Result && ref(i.A) == types.Reference(result)
	}
	if !ok {
		a.fail("%+v", i)
	}
}
