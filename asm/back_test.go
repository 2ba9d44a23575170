package asm_test

import (
	"fmt"
	"math/rand"
	"reflect"
	"strconv"
	"strings"
	"testing"

	"derrick/asm"
	"derrick/code"
)

// reader takes a program's text apart again; the lines of a program by chance have no line ends within.
type reader struct {
	t     *testing.T
	lines []string
}

func (r *reader) number(s string) int {
	n, err := strconv.Atoi(s)
	if err != nil || strconv.Itoa(n) != s {
		r.t.Fatalf("%q is no number", s)
	}
	return n
}

// next is what stands behind a beginning in the next line, if the line begins so.
func (r *reader) next(begin string) (string, bool) {
	if len(r.lines) == 0 {
		return "", false
	}
	rest, ok := strings.CutPrefix(r.lines[0], begin)
	if ok {
		r.lines = r.lines[1:]
	}
	return rest, ok
}

func (r *reader) program(text string) code.Program {
	whole, ok := strings.CutSuffix(text, "\n")
	if !ok {
		r.t.Fatalf("%q has no end", text)
	}
	r.lines = strings.Split(whole, "\n")
	var p code.Program
	for {
		rest, ok := r.next(fmt.Sprintf("text %d \"", len(p.Texts)))
		if !ok {
			break
		}
		p.Texts = append(p.Texts, strings.NewReplacer(`\n`, "\n", `\"`, `"`, `\\`, `\`).Replace(strings.TrimSuffix(rest, `"`)))
	}
	for {
		rest, ok := r.next(fmt.Sprintf("func %d ", len(p.Funcs)+1))
		if !ok {
			break
		}
		p.Funcs = append(p.Funcs, r.function(rest))
	}
	rest, ok := r.next("main ")
	if !ok || len(r.lines) > 0 {
		r.t.Fatalf("%q ends with %q", text, r.lines)
	}
	p.Main = r.number(rest)
	return p
}

func (r *reader) function(line string) code.Func {
	w := strings.Split(line, " ")
	if len(w) < 7 || w[1] != "params" || w[3] != "captures" || w[5] != "registers" || len(w) > 7 && (len(w) > 8 || w[7] != "result") {
		r.t.Fatalf("%q is no function", line)
	}
	f := code.Func{Name: w[0], Params: r.number(w[2]), Captures: r.number(w[4]), Result: len(w) == 8}
	if f.Name == "-" {
		f.Name = ""
	}
	for _, c := range w[6] {
		if c != 'r' && c != 'n' {
			r.t.Fatalf("%q are no registers", w[6])
		}
		f.Refs = append(f.Refs, c == 'r')
	}
	for {
		rest, ok := r.next(fmt.Sprintf("\t%d ", len(f.Code)))
		if !ok {
			return f
		}
		f.Code = append(f.Code, r.instr(rest))
	}
}

func (r *reader) instr(line string) code.Instr {
	words, list, listed := strings.Cut(line, " [")
	w := strings.Split(words, " ")
	var in code.Instr
	for n, o := range ops {
		if o.name == w[0] {
			in.Op = n
		}
	}
	uses, lists := strings.CutSuffix(ops[in.Op].uses, " List")
	places := map[string]*int{"A": &in.A, "B": &in.B, "C": &in.C, "D": &in.D}
	names := strings.Fields(uses)
	if in.Op == 0 && line != "?" || len(names) != len(w)-1 || lists != listed {
		r.t.Fatalf("%q is no instruction", line)
	}
	for i, name := range names {
		*places[name] = r.number(w[i+1])
	}
	if listed {
		list, ok := strings.CutSuffix(list, "]")
		if !ok {
			r.t.Fatalf("%q has a list without an end", line)
		}
		for _, s := range strings.Split(list, " ") {
			if list != "" {
				in.List = append(in.List, r.number(s))
			}
		}
	}
	return in
}

// shown is of a program what its text shows: no number that isn't used, nothing of globals and structs, no empty lists.
func shown(p code.Program) code.Program {
	q := code.Program{Texts: append([]string(nil), p.Texts...), Main: p.Main}
	for _, f := range p.Funcs {
		g := f
		g.Refs, g.Code = append([]bool(nil), f.Refs...), nil
		for _, in := range f.Code {
			g.Code = append(g.Code, shownInstr(in))
		}
		q.Funcs = append(q.Funcs, g)
	}
	return q
}

func shownInstr(in code.Instr) code.Instr {
	if in.Op < 0 || in.Op >= len(ops) {
		return code.Instr{}
	}
	uses := ops[in.Op].uses
	out := code.Instr{Op: in.Op}
	for _, x := range []struct {
		name     string
		from, to *int
	}{{"A", &in.A, &out.A}, {"B", &in.B, &out.B}, {"C", &in.C, &out.C}, {"D", &in.D, &out.D}} {
		if strings.Contains(uses, x.name) {
			*x.to = *x.from
		}
	}
	if strings.Contains(uses, "List") {
		out.List = append([]int(nil), in.List...)
	}
	return out
}

// readBack prints a program and asks that the text tells all that it is to tell of it.
func readBack(t *testing.T, p code.Program) {
	t.Helper()
	text := asm.Print(p)
	r := &reader{t: t}
	if got, want := r.program(text), shown(p); !reflect.DeepEqual(got, want) {
		t.Fatalf("%s\nis read as\n%+v\nnot\n%+v", text, got, want)
	}
}

// chance makes programs by chance.
type chance struct {
	*rand.Rand
}

func (c chance) number() int {
	switch c.Intn(4) {
	case 0:
		return edges[c.Intn(len(edges))]
	case 1:
		return int(c.Uint64() >> c.Intn(64))
	default:
		return c.Intn(60) - 3
	}
}

func (c chance) op() int {
	if c.Intn(8) == 0 {
		return c.number()
	}
	return c.Intn(len(ops))
}

// text is of all bytes, with some oftener than others.
func (c chance) text() string {
	b := make([]byte, c.Intn(7))
	for i := range b {
		b[i] = byte(c.Intn(256))
		if c.Intn(2) == 0 {
			b[i] = "\n\"\\n- r"[c.Intn(7)]
		}
	}
	return string(b)
}

// name has no blanks and no line ends, by which the text is taken apart, and isn't the sign for none.
func (c chance) name() string {
	b := make([]byte, c.Intn(5))
	for i := range b {
		b[i] = byte('a' + c.Intn(26))
	}
	return string(b)
}

func listOf[T any](c chance, item func() T) []T {
	var list []T
	for range c.Intn(5) {
		list = append(list, item())
	}
	return list
}

func (c chance) flag() bool    { return c.Intn(2) == 1 }
func (c chance) flags() []bool { return listOf(c, c.flag) }

func (c chance) instr() code.Instr {
	return code.Instr{Op: c.op(), A: c.number(), B: c.number(), C: c.number(), D: c.number(), List: listOf(c, c.number)}
}

func (c chance) function() code.Func {
	return code.Func{Name: c.name(), Refs: c.flags(), Params: c.number(), Captures: c.number(), Result: c.flag(), Code: listOf(c, c.instr)}
}

func (c chance) program() code.Program {
	return code.Program{Texts: listOf(c, c.text), Globals: c.flags(), Structs: listOf(c, c.flags), Funcs: listOf(c, c.function), Main: c.number()}
}

func TestProgramsByChance(t *testing.T) {
	c := chance{rand.New(rand.NewSource(18))}
	for range 20000 {
		readBack(t, c.program())
	}
}
