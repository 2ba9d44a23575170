package types_test

import (
	"reflect"
	"slices"
	"strings"
	"testing"

	"derrick/api"
	"derrick/types"
)

const allWords = "append bool break cap case chan close continue default defer else fallthrough false for func go if int len make new nil panic print recover return select string struct switch true type var"

// no is what is no type, one for each way of being none.
var no = []string{
	"", " ", "nil", "T", "x", "t1", "Int", "INT", "ints", "int1", "int_", "integer", "in", "nt", "bools", "strings", "str", "error", "byte",
	"int ", " int", "int\n", "\tint", "int\x00", "intint", "int,", "int)", "int()", "(int)", "int,int", "int bool", "1", "0", "_", "?",
	"*", "**", "**T", "* T", "*T ", "*1", "*1T", "*T.U", "*T*U", "*[]int", "*(T)", "*T(", "*T[", "*T;", "*T\n", "*T//", "*T // x", "*é", "*\xff", "*T\xff", `*"T"`, "*T-", "*T,", "*T)", "*,", "*)",
	"[]", "[", "]", "[]]", "[ ]int", "[] int", "[]int ", "[][]", "[]T", "[]nil", "[3]int", "[]*", "int[]", "[][int", "[],", "[])", "[](int)",
	"chan", "chan ", "chanint", "chan  int", "chan\tint", "chan\nint", "chan int ", "chan chan", "chan chan ", "chan nil", "chan T", "chan*T", "chan[]int", "chanfunc()", "Chan int", "chan<- int", "<-chan int", "chan ,", "chan )", "chan (int)",
	"func", "func(", "func)", "func()(", "func())", "func(()", "func ()", "func( )", "func() int", "func(int )", "func( int)", "func(int, bool)", "func(int ,bool)", "func(int,,bool)", "func(,)", "func(,int)", "func(int,)", "func(int", "func(int,", "func(int,bool", "func(int)bool,", "func()int)", "func()int,bool", "func()(int)", "func()()", "func()nil", "func(nil)", "func(T)", "func()T", "func(int bool)", "func(x int)", "func()intbool", "func()int int", "func(*)", "func()*", "func([])", "func()[]", "func(chan)", "func(chan )", "func()chan", "func()chan ", "func(func)", "func(func()", "func()func", "func()func(", "func(func(int)", "func(int))func()", "Func()", "func[]", "func{}", "func(...int)", "fun()", "func(int;bool)", "func(int)\n", "func(1)", "func(*T1,*1T)",
	"map[string]int", "struct{}", "interface{}", "*int,", "[]int,[]int", "int)int", ")", "(", ",", "()", "(,)",
}

// yes is what is a type, with what is asked of it.
var yes = []struct {
	text   string
	form   string // int, bool, string, pointer, slice, channel or func
	item   string
	params []string
	result string
	spelt  string // as a source may have it
}{
	{text: "int", form: "int"},
	{text: "bool", form: "bool"},
	{text: "string", form: "string"},
	{text: "*T", form: "pointer", spelt: "* T"},
	{text: "*_", form: "pointer"},
	{text: "*ints", form: "pointer"},
	{text: "*Int", form: "pointer"},
	{text: "*func1", form: "pointer"},
	{text: "*nil_", form: "pointer"},
	{text: "*a0Z9_", form: "pointer", spelt: "*//x\na0Z9_"},
	{text: "[]int", form: "slice", item: "int", spelt: "[ ] int"},
	{text: "[]*T", form: "slice", item: "*T"},
	{text: "[][]bool", form: "slice", item: "[]bool"},
	{text: "[]chan *T", form: "slice", item: "chan *T", spelt: "[]chan*T"},
	{text: "[]func(int,bool)string", form: "slice", item: "func(int,bool)string"},
	{text: "chan int", form: "channel", item: "int", spelt: "chan\t int"},
	{text: "chan *chan1", form: "channel", item: "*chan1", spelt: "chan*chan1"},
	{text: "chan chan chan string", form: "channel", item: "chan chan string"},
	{text: "chan []int", form: "channel", item: "[]int", spelt: "chan[]int"},
	{text: "chan func()", form: "channel", item: "func()"},
	{text: "func()", form: "func", spelt: "func ( )"},
	{text: "func()int", form: "func", result: "int", spelt: "func() int"},
	{text: "func(int)", form: "func", params: []string{"int"}},
	{text: "func(*T)*U", form: "func", params: []string{"*T"}, result: "*U"},
	{text: "func(int,bool)", form: "func", params: []string{"int", "bool"}, spelt: "func(int , bool)"},
	{text: "func(int,bool,string)chan int", form: "func", params: []string{"int", "bool", "string"}, result: "chan int"},
	{text: "func(int,func()bool)[]int", form: "func", params: []string{"int", "func()bool"}, result: "[]int"},
	{text: "func(func(),func(func()))", form: "func", params: []string{"func()", "func(func())"}},
	{text: "func(func(int,int)int,int)func(int,int)int", form: "func", params: []string{"func(int,int)int", "int"}, result: "func(int,int)int"},
	{text: "func()func()func(int)", form: "func", result: "func()func(int)"},
	{text: "func(func()func()int,[]func(int,bool)*T,chan func(bool)chan func())func()", form: "func", params: []string{"func()func()int", "[]func(int,bool)*T", "chan func(bool)chan func()"}, result: "func()", spelt: "func(func()func()int,[]func(int,bool)*T,chan func(bool)chan func())func()"},
	{text: "func([]int,[]int)", form: "func", params: []string{"[]int", "[]int"}},
	{text: "func(string,string,string,string,string,string,string,string,string,string)", form: "func", params: slices.Repeat([]string{"string"}, 10)},
}

func isIn(form string, forms string) bool {
	return slices.Contains(strings.Fields(forms), form)
}

func TestValid(t *testing.T) {
	for _, y := range yes {
		if !types.Valid(y.text) {
			t.Errorf("%q is a type", y.text)
		}
	}
	for _, n := range no {
		if types.Valid(n) {
			t.Errorf("%q is no type", n)
		}
	}
}

func TestElem(t *testing.T) {
	for _, y := range yes {
		item, ok := types.Elem(y.text)
		if item != y.item || ok != isIn(y.form, "slice channel") {
			t.Errorf("%q: %q %v", y.text, item, ok)
		}
	}
	for _, n := range no {
		for _, text := range []string{n, "[]" + n, "chan " + n} {
			if item, ok := types.Elem(text); item != "" || ok {
				t.Errorf("%q: %q %v", text, item, ok)
			}
		}
	}
}

func TestFunc(t *testing.T) {
	for _, y := range yes {
		params, result, ok := types.Func(y.text)
		if !slices.Equal(params, y.params) || result != y.result || ok != (y.form == "func") {
			t.Errorf("%q: %q %q %v", y.text, params, result, ok)
		}
	}
	for _, n := range no {
		texts := []string{n, "func(int," + n + ")", "func(" + n + ",int)int"}
		if n != "" {
			texts = append(texts, "func("+n+")", "func()"+n)
		}
		for _, text := range texts {
			if strings.Contains(n, ",") && reduces(text) {
				continue // two types with a comma between are no type, but may be params
			}
			if params, result, ok := types.Func(text); len(params) != 0 || result != "" || ok {
				t.Errorf("%q: %q %q %v", text, params, result, ok)
			}
		}
	}
}

// TestFuncAnswersNewLists writes into an answer and its spare room; the next one must not show it.
func TestFuncAnswersNewLists(t *testing.T) {
	first, _, _ := types.Func("func(int,bool,string)")
	second, _, _ := types.Func("func(int,bool,string)")
	for i := range first[:cap(first)] {
		first[:cap(first)][i] = "x"
	}
	third, _, _ := types.Func("func(int,bool,string)")
	want := []string{"int", "bool", "string"}
	if !slices.Equal(second, want) || !slices.Equal(third, want) {
		t.Error(second, third)
	}
}

func TestNilableAndReference(t *testing.T) {
	for _, y := range yes {
		nilable := isIn(y.form, "pointer slice channel func")
		if types.Nilable(y.text) != nilable || types.Reference(y.text) != (nilable || y.form == "string") {
			t.Errorf("%q: %v %v", y.text, types.Nilable(y.text), types.Reference(y.text))
		}
	}
	for _, n := range no {
		if types.Nilable(n) || types.Reference(n) {
			t.Errorf("%q: %v %v", n, types.Nilable(n), types.Reference(n))
		}
	}
}

func TestOrdered(t *testing.T) {
	for _, y := range yes {
		if types.Ordered(y.text) != isIn(y.form, "int string") {
			t.Errorf("%q", y.text)
		}
	}
	for _, n := range no {
		if types.Ordered(n) {
			t.Errorf("%q", n)
		}
	}
}

// TestFitsAndEquals holds every text against every other.
func TestFitsAndEquals(t *testing.T) {
	forms := map[string]string{}
	for _, y := range yes {
		forms[y.text] = y.form
	}
	for _, n := range no {
		forms[n] = ""
	}
	nilable := func(text string) bool { return isIn(forms[text], "pointer slice channel func") }
	for a := range forms {
		for b := range forms {
			fits := a == b && forms[b] != "" || a == "nil" && nilable(b)
			equals := a == b && isIn(forms[a], "int bool string pointer channel") || a == "nil" && nilable(b) || b == "nil" && nilable(a)
			if types.Fits(a, b) != fits || types.Equals(a, b) != equals {
				t.Errorf("%q, %q: fits %v, equals %v", a, b, types.Fits(a, b), types.Equals(a, b))
			}
		}
	}
}

func TestChapterExamples(t *testing.T) {
	node := api.Node{Kind: api.TSlice, Kids: []api.Node{{Kind: api.TChan, Kids: []api.Node{{Kind: api.TPtr, Text: "T"}}}}}
	if s := types.Of(node); s != "[]chan *T" {
		t.Error(s)
	}
	params, result, ok := types.Func("func(int,func()bool)[]int")
	if !reflect.DeepEqual(params, []string{"int", "func()bool"}) || result != "[]int" || !ok {
		t.Error(params, result, ok)
	}
	if !types.Fits("nil", "chan int") || !types.Equals("nil", "[]int") || types.Equals("[]int", "[]int") || types.Equals("nil", "nil") {
		t.Error("Fits, Equals")
	}
}

func TestNames(t *testing.T) {
	full := strings.Repeat("aB3_", api.MaxName/4)
	for _, name := range []string{"a", "z", "A", "Z", "_", "__", "_0", "T1", "main", full} {
		wantName(t, name, true)
	}
	for _, name := range []string{"", "0", "9a", full + "x", full + "0", full + full, "a b", "a ", " a", "a\n", "\na", "a;", "a//", "//a", "//", "a.b", "a-", "é", "aé", "a\x00", "\x00"} {
		wantName(t, name, false)
	}
	for _, word := range strings.Fields(allWords) {
		wantName(t, word, false)
		wantName(t, word+"_", true)
		wantName(t, strings.ToUpper(word), true)
	}
	for c := range 256 {
		letter := c >= 'a' && c <= 'z' || c >= 'A' && c <= 'Z' || c == '_'
		digit := c >= '0' && c <= '9'
		wantName(t, string([]byte{byte(c)}), letter)
		wantName(t, string([]byte{'x', byte(c)}), letter || digit)
		wantName(t, string([]byte{'x', byte(c), 'y'}), letter || digit)
	}
}

// wantName lays a text into a name's place, wherever a type may have one.
func wantName(t *testing.T, name string, want bool) {
	t.Helper()
	for _, text := range []string{"*#", "[]*#", "chan *#", "func(*#)", "func()*#", "func(int,*#)bool", "func(*#,int)", "func(func()*#)"} {
		text = strings.ReplaceAll(text, "#", name)
		if types.Valid(text) != want || types.Nilable(text) != want || types.Fits(text, text) != want || types.Fits("nil", text) != want {
			t.Errorf("%q: %v", text, !want)
		}
	}
}
