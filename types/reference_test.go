package types_test

import (
	"math/rand"
	"regexp"
	"slices"
	"strings"
	"testing"

	"derrick/api"
	"derrick/types"
)

var (
	namePattern = regexp.MustCompile(`^[a-zA-Z_][a-zA-Z_0-9]{0,23}$`)
	starred     = regexp.MustCompile(`\*[a-zA-Z_0-9]*`)
	grown       = regexp.MustCompile(`(int|bool|string)[a-zA-Z_0-9]|[a-zA-Z_0-9](int|bool|string)`)
	listed      = regexp.MustCompile(`(\[\]|chan )(int|bool|string)`)
	innermost   = regexp.MustCompile(`func\(((int|bool|string)(,(int|bool|string))*)?\)(int|bool|string)?`)
)

// reduces is a second way to tell whether a text is a type: from the innermost parts outwards each type is put down as one that has no parts, till only that is left.
func reduces(text string) bool {
	text = starred.ReplaceAllStringFunc(text, func(s string) string {
		if !namePattern.MatchString(s[1:]) || slices.Contains(strings.Fields(allWords), s[1:]) {
			return "?"
		}
		return "bool"
	})
	if grown.MatchString(text) {
		return false
	}
	for {
		next := listed.ReplaceAllString(text, "bool")
		// A function's type is put down only where it can't have a result that isn't put down yet.
		next = replaceWhole(next)
		if next == text {
			return text == "int" || text == "bool" || text == "string"
		}
		text = next
	}
}

// replaceWhole puts the function types down behind which nothing, a comma or a ")" stands.
func replaceWhole(text string) string {
	var b strings.Builder
	for {
		at := innermost.FindStringIndex(text)
		if at == nil {
			return b.String() + text
		}
		b.WriteString(text[:at[0]])
		found, rest := text[at[0]:at[1]], text[at[1]:]
		if rest == "" || rest[0] == ',' || rest[0] == ')' {
			found = "bool"
		}
		b.WriteString(found)
		text = rest
	}
}

// TestAllShortTexts holds Valid against the second way on all texts of up to five pieces.
func TestAllShortTexts(t *testing.T) {
	pieces := []string{"int", "bool", "*", "T", "[]", "chan ", "func(", ")", ",", "func()", "*T", " ", "chan"}
	var texts func(text string, left int)
	count := 0
	texts = func(text string, left int) {
		want := reduces(text)
		if want {
			count++
		}
		if types.Valid(text) != want {
			t.Errorf("%q: %v", text, !want)
		}
		if left > 0 && !t.Failed() {
			for _, p := range pieces {
				texts(text+p, left-1)
			}
		}
	}
	texts("", 5)
	if count < 3000 {
		t.Error(count, "types")
	}
}

// writer makes a type's node, its text, and what Elem and Func answer of it.
type writer struct{ *rand.Rand }

type written struct {
	node   api.Node
	text   string
	item   string
	params []string
	result string
}

func (w writer) leaf() written {
	switch w.Intn(4) {
	case 0:
		return written{node: intNode, text: "int"}
	case 1:
		return written{node: node(api.TBool), text: "bool"}
	case 2:
		return written{node: node(api.TString), text: "string"}
	}
	name := []string{"T", "_", "chan_", "int1", strings.Repeat("q", api.MaxName)}[w.Intn(5)]
	return written{node: ptr(name), text: "*" + name}
}

func (w writer) any(depth int) written {
	if depth == 0 || w.Intn(6) == 0 {
		return w.leaf()
	}
	switch w.Intn(4) {
	case 0:
		item := w.any(depth - 1)
		return written{node: node(api.TSlice, item.node), text: "[]" + item.text, item: item.text}
	case 1:
		item := w.any(depth - 1)
		return written{node: node(api.TChan, item.node), text: "chan " + item.text, item: item.text}
	}
	var kids []api.Node
	var params []string
	for range w.Intn(4) {
		p := w.any(depth - 1)
		kids, params = append(kids, p.node), append(params, p.text)
	}
	result := written{node: none}
	if w.Intn(2) == 0 {
		result = w.any(depth - 1)
	}
	text := "func(" + strings.Join(params, ",") + ")" + result.text
	return written{node: node(api.TFunc, append(kids, result.node)...), text: text, params: params, result: result.text}
}

func TestWrittenTypes(t *testing.T) {
	w := writer{rand.New(rand.NewSource(4))}
	for range 4000 {
		made := w.any(4)
		wantOf(t, made.node, made.text)
		item, isList := types.Elem(made.text)
		params, result, isFunc := types.Func(made.text)
		if !types.Valid(made.text) || item != made.item || !slices.Equal(params, made.params) || result != made.result || isList != (made.item != "") || isFunc != (made.node.Kind == api.TFunc) {
			t.Fatalf("%q: %q %q %q", made.text, item, params, result)
		}
		if len(made.text) < 400 {
			brokenOne(t, w, made.text)
		}
	}
}

// brokenOne changes a byte of a right text, takes it away, or lays one in: the second way tells whether it is a type still.
func brokenOne(t *testing.T, w writer, text string) {
	t.Helper()
	at := w.Intn(len(text))
	piece := []string{"", " ", ",", "(", ")", "*", "[", "]", "[]", "func()", "x", "0", "int", "nil", "\n"}[w.Intn(15)]
	for _, broken := range []string{text[:at] + piece + text[at:], text[:at] + piece + text[at+1:], text[:at], text[at:], text + piece, piece + text} {
		if want := reduces(broken); types.Valid(broken) != want {
			t.Errorf("%q: %v", broken, !want)
		}
	}
}

func TestLongTexts(t *testing.T) {
	const deep = 1 << 16
	nest := func(begin, middle, end string) string {
		return strings.Repeat(begin, deep) + middle + strings.Repeat(end, deep)
	}
	for _, text := range []string{
		nest("[]", "int", ""), nest("chan ", "*T", ""), nest("func(", "int", ")"), nest("func(", "", ")"), nest("func()", "func()", ""),
		nest("func(int,", "int", ")bool"), nest("func()[]chan ", "bool", ""), "func(" + nest("*Type,", "int", "") + ")", "func(func(),int" + nest("", "", ",func(int,bool)int") + ")string",
	} {
		if !types.Valid(text) || !types.Nilable(text) || !types.Reference(text) || !types.Fits(text, text) || !types.Fits("nil", text) || !types.Equals(text, "nil") {
			t.Errorf("%.30q is a type", text)
		}
		for _, broken := range []string{text + " ", text + ")", text[1:], text + "x-", text[:len(text)/2] + " " + text[len(text)/2:]} {
			if types.Valid(broken) {
				t.Errorf("%.30q is no type", broken)
			}
		}
	}
	if item, ok := types.Elem(nest("[]", "int", "")); item != nest("[]", "int", "")[2:] || !ok {
		t.Error("Elem of a deep type")
	}
	params, result, ok := types.Func("func(" + nest("*Type,", "int", "") + ")" + nest("func(", "", ")"))
	if len(params) != deep+1 || params[0] != "*Type" || params[deep] != "int" || result != nest("func(", "", ")") || !ok {
		t.Error("Func of a long type")
	}
}

func TestDeepNodes(t *testing.T) {
	const deep = 1 << 16
	slice, fn := intNode, none
	for range deep {
		slice, fn = node(api.TSlice, slice), node(api.TFunc, fn, none)
	}
	wantOf(t, slice, strings.Repeat("[]", deep)+"int")
	wantOf(t, fn, strings.Repeat("func(", deep)+strings.Repeat(")", deep))
	wide := node(api.TFunc, append(slices.Repeat([]api.Node{ptr("T")}, deep), none)...)
	wantOf(t, wide, "func(*T"+strings.Repeat(",*T", deep-1)+")")
}
