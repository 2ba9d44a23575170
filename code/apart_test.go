package code_test

import (
	"bytes"
	"fmt"
	"math/rand"
	"reflect"
	"slices"
	"strings"
	"testing"

	"derrick/code"
)

// variants tells, for each place of a value, the value with something else there; whatever the value's type.
func variants(v reflect.Value) []reflect.Value {
	var out []reflect.Value
	put := func(x any) { out = append(out, reflect.ValueOf(x).Convert(v.Type())) }
	switch v.Kind() {
	case reflect.Int:
		for _, n := range edges {
			put(n)
			put(int(v.Int()) + n)
			put(int(v.Int()) ^ n)
		}
	case reflect.Bool:
		put(!v.Bool())
	case reflect.String:
		s := v.String()
		for _, x := range []string{"", "a", s + "\x00", s + "a", "a" + s, "\x00" + s, s + s, strings.ToUpper(s)} {
			put(x)
		}
	case reflect.Struct:
		for i := range v.NumField() {
			for _, x := range variants(v.Field(i)) {
				c := reflect.New(v.Type()).Elem()
				c.Set(v)
				c.Field(i).Set(x)
				out = append(out, c)
			}
		}
	case reflect.Slice:
		out = listVariants(v)
	}
	return out
}

func listVariants(v reflect.Value) []reflect.Value {
	zero := reflect.Zero(v.Type().Elem())
	grown := reflect.Append(listCopy(v), zero)
	moved := reflect.Append(reflect.MakeSlice(v.Type(), 0, 0), zero)
	out := []reflect.Value{grown, reflect.AppendSlice(moved, v), reflect.Zero(v.Type())}
	for i := range v.Len() {
		out = append(out, v.Slice(0, i))
		out = append(out, reflect.AppendSlice(listCopy(v.Slice(0, i)), v.Slice(i+1, v.Len())))
		twice := reflect.Append(listCopy(v.Slice(0, i)), v.Index(i))
		out = append(out, reflect.AppendSlice(twice, v.Slice(i, v.Len())))
		for _, x := range variants(v.Index(i)) {
			c := listCopy(v)
			c.Index(i).Set(x)
			out = append(out, c)
		}
	}
	return out
}

func listCopy(v reflect.Value) reflect.Value {
	return reflect.AppendSlice(reflect.MakeSlice(v.Type(), 0, v.Len()), v)
}

// shelf keeps programs by their bytes: no two share theirs.
type shelf map[string]code.Program

func (s shelf) put(t *testing.T, p code.Program) {
	t.Helper()
	b := string(roundTrip(t, p))
	if q, ok := s[b]; ok && !same(p, q) {
		t.Fatalf("% x are the bytes of\n%+v\nand of\n%+v", b, p, q)
	}
	s[b] = p
}

// apart asks that no bytes on the shelf are the beginning of others.
func (s shelf) apart(t *testing.T) {
	t.Helper()
	var all []string
	for b := range s {
		all = append(all, b)
	}
	slices.Sort(all)
	for i := 1; i < len(all); i++ {
		if strings.HasPrefix(all[i], all[i-1]) {
			t.Fatalf("% x begin % x", all[i-1], all[i])
		}
	}
}

func TestProgramsThatDifferInOnePlace(t *testing.T) {
	s, distinct := shelf{}, map[string]struct{}{}
	for _, p := range []code.Program{{}, sample(), oneInstr(code.Instr{List: []int{0}})} {
		s.put(t, p)
		for _, v := range variants(reflect.ValueOf(p)) {
			q := v.Interface().(code.Program)
			s.put(t, q)
			distinct[fmt.Sprintf("%#v", plain(q))] = struct{}{}
		}
	}
	if len(distinct) < 1000 {
		t.Errorf("only %d programs", len(distinct))
	}
	s.apart(t)
}

// TestSmallPrograms goes through all programs of a few small parts, so that no part may run into its neighbour.
func TestSmallPrograms(t *testing.T) {
	s := shelf{}
	texts := [][]string{nil, {""}, {"\x00"}, {"\x01"}, {"", ""}, {"\x00\x00"}}
	flags := [][]bool{nil, {false}, {true}, {false, false}, {true, false}}
	structs := [][][]bool{nil, {nil}, {{true}}, {nil, nil}, {{false}, nil}, {nil, {false}}}
	funcs := [][]code.Func{nil, {{}}, {{}, {}}, {{Result: true}}, {{Name: "\x00"}}, {{Params: 1}}, {{Captures: 1}},
		{{Code: []code.Instr{{}}}}, {{Code: []code.Instr{{}, {}}}}, {{Code: []code.Instr{{List: []int{0}}}}}, {{Code: []code.Instr{{Op: 1}}}}}
	for _, a := range texts {
		for _, b := range flags {
			for _, c := range structs {
				for _, d := range funcs {
					for m := -2; m <= 2; m++ {
						s.put(t, code.Program{Texts: a, Globals: b, Structs: c, Funcs: d, Main: m})
					}
				}
			}
		}
	}
	if want := len(texts) * len(flags) * len(structs) * len(funcs) * 5; len(s) != want {
		t.Errorf("%d bytes of %d programs", len(s), want)
	}
	s.apart(t)
}

// chance makes programs by chance.
type chance struct {
	*rand.Rand
}

func (c chance) number() int {
	switch c.Intn(4) {
	case 0:
		return edges[c.Intn(len(edges))]
	case 1:
		return int(c.Uint64() >> c.Intn(64))
	default:
		return c.Intn(60) - 3
	}
}

func (c chance) text() string {
	b := make([]byte, c.Intn(5))
	c.Read(b)
	return string(b)
}

func listOf[T any](c chance, item func() T) []T {
	list := []T{}
	for range c.Intn(5) {
		list = append(list, item())
	}
	return list
}

func (c chance) flag() bool    { return c.Intn(2) == 1 }
func (c chance) flags() []bool { return listOf(c, c.flag) }

func (c chance) instr() code.Instr {
	return code.Instr{Op: c.number(), A: c.number(), B: c.number(), C: c.number(), D: c.number(), List: listOf(c, c.number)}
}

func (c chance) function() code.Func {
	return code.Func{Name: c.text(), Refs: c.flags(), Params: c.number(), Captures: c.number(), Result: c.flag(), Code: listOf(c, c.instr)}
}

func (c chance) program() code.Program {
	return code.Program{Texts: listOf(c, c.text), Globals: c.flags(), Structs: listOf(c, c.flags), Funcs: listOf(c, c.function), Main: c.number()}
}

func TestProgramsByChance(t *testing.T) {
	c := chance{rand.New(rand.NewSource(8))}
	s := shelf{}
	for range 20000 {
		s.put(t, c.program())
	}
	s.apart(t)
	for range 100 {
		wholeOnly(t, code.Encode(c.program()))
	}
}

// onlyWritten asks that bytes are refused, or are those of the program that is read from them.
func onlyWritten(t *testing.T, b []byte) {
	t.Helper()
	kept := bytes.Clone(b)
	p, ok := code.Decode(b)
	if !bytes.Equal(b, kept) {
		t.Fatalf("% x were changed", kept)
	}
	if !ok && !reflect.DeepEqual(p, code.Program{}) {
		t.Fatalf("% x: false and %+v", b, p)
	}
	if ok && !bytes.Equal(code.Encode(p), b) {
		t.Fatalf("% x is read as %+v, whose bytes are % x", b, p, code.Encode(p))
	}
}

func TestAnyBytes(t *testing.T) {
	onlyWritten(t, nil)
	onlyWritten(t, []byte{})
	for n := range 1 << 16 {
		onlyWritten(t, []byte{byte(n)})
		onlyWritten(t, []byte{byte(n), byte(n >> 8)})
		onlyWritten(t, []byte{0, 0, 0, byte(n), byte(n >> 8)})
		onlyWritten(t, []byte{0, 0, 0, 0, byte(n), byte(n >> 8)})
	}
	for n := range 8 * 8 * 8 * 8 * 8 * 8 {
		b := []byte{}
		for k := 0; k < 18; k += 3 {
			b = append(b, []byte{0, 1, 2, 3, 127, 128, 129, 255}[n>>k&7])
		}
		onlyWritten(t, b)
	}
	c := chance{rand.New(rand.NewSource(9))}
	for range 20000 {
		b := make([]byte, c.Intn(60))
		c.Read(b)
		onlyWritten(t, b)
	}
}

func TestSpoiltBytes(t *testing.T) {
	c := chance{rand.New(rand.NewSource(10))}
	for range 20000 {
		b := code.Encode(c.program())
		for range 1 + c.Intn(3) {
			at := c.Intn(len(b))
			switch c.Intn(3) {
			case 0:
				b[at] = byte(c.Intn(256))
			case 1:
				b = slices.Delete(b, at, at+1)
			default:
				b = slices.Insert(b, at, byte(c.Intn(256)))
			}
			if len(b) == 0 {
				break
			}
		}
		onlyWritten(t, b)
	}
}

// TestGreatLengths lays numbers greater than what is there, or than any memory, at every place of a program's bytes.
func TestGreatLengths(t *testing.T) {
	greatest := append(bytes.Repeat([]byte{255}, 9), 1)
	great := [][]byte{
		greatest,
		append(bytes.Repeat([]byte{255}, 9), 2),
		append(bytes.Repeat([]byte{255}, 9), 127),
		append(bytes.Repeat([]byte{255}, 9), 129, 1),
		bytes.Repeat([]byte{255}, 40),
		append(bytes.Repeat([]byte{128}, 9), 1),
		append(bytes.Repeat([]byte{128}, 8), 1),
		append(bytes.Repeat([]byte{255}, 8), 127),
		append(bytes.Repeat([]byte{255}, 5), 127),
		append(bytes.Repeat([]byte{255}, 3), 127),
		append(bytes.Repeat([]byte{128}, 40), 1),
		bytes.Repeat([]byte{128}, 40),
		{128, 0},
		{129, 0},
		{255, 128, 0},
	}
	for _, p := range []code.Program{{}, sample(), {Funcs: []code.Func{{Code: []code.Instr{{}}}}, Structs: [][]bool{{}}}} {
		b := code.Encode(p)
		for at := range b {
			for _, g := range great {
				onlyWritten(t, slices.Concat(b[:at], g, b[at+1:]))
				onlyWritten(t, slices.Concat(b[:at], g, b[at:]))
				onlyWritten(t, slices.Concat(b[:at], g))
			}
		}
	}
	for at := range 4 {
		refused(t, slices.Concat(make([]byte, at), greatest, make([]byte, 1000)))
	}
}
