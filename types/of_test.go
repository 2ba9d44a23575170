package types_test

import (
	"reflect"
	"strings"
	"testing"

	"derrick/api"
	"derrick/parse"
	"derrick/types"
)

func node(kind int, kids ...api.Node) api.Node { return api.Node{Kind: kind, Kids: kids} }

func ptr(name string) api.Node { return api.Node{Kind: api.TPtr, Text: name} }

var (
	none    = node(api.NNone)
	intNode = node(api.TInt)
)

func wantOf(t *testing.T, n api.Node, want string) {
	t.Helper()
	if got := types.Of(n); got != want {
		t.Errorf("%.100v: %.100q, not %.100q", n, got, want)
	}
}

// parsed is the node of a type that a source has.
func parsed(t *testing.T, text string) api.Node {
	t.Helper()
	file, fault := parse.Parse("var x " + text)
	if fault != (api.Fault{}) {
		t.Fatalf("%q: %v", text, fault)
	}
	return file.Kids[0].Kids[0]
}

func TestOfParsed(t *testing.T) {
	for _, y := range yes {
		wantOf(t, parsed(t, y.text), y.text)
		if y.spelt != "" {
			wantOf(t, parsed(t, y.spelt), y.text)
		}
	}
}

func TestOfForms(t *testing.T) {
	wantOf(t, intNode, "int")
	wantOf(t, node(api.TBool), "bool")
	wantOf(t, node(api.TString), "string")
	wantOf(t, ptr("T"), "*T")
	wantOf(t, node(api.TSlice, intNode), "[]int")
	wantOf(t, node(api.TChan, intNode), "chan int")
	wantOf(t, node(api.TFunc, none), "func()")
	wantOf(t, node(api.TFunc, intNode), "func()int")
	wantOf(t, node(api.TFunc, intNode, none), "func(int)")
	wantOf(t, node(api.TFunc, intNode, node(api.TBool)), "func(int)bool")
	wantOf(t, node(api.TFunc, intNode, ptr("T"), node(api.TBool), none), "func(int,*T,bool)")
	wantOf(t, node(api.TFunc, intNode, ptr("T"), node(api.TFunc, none), node(api.TFunc, intNode)), "func(int,*T,func())func()int")
}

// TestOfOtherNodes asks each kind that is no type, with all that a node may have.
func TestOfOtherNodes(t *testing.T) {
	wantOf(t, api.Node{}, "")
	for kind := -2; kind <= api.EList+2; kind++ {
		if kind >= api.TInt && kind <= api.TFunc {
			continue
		}
		other := api.Node{Kind: kind, Text: "int", Num: 1, At: 2, Type: "int", Ref: 3, Kids: []api.Node{intNode, intNode}}
		wantOf(t, other, "")
		wantOf(t, node(kind), "")
		wantOf(t, node(api.TSlice, other), "[]")
		wantOf(t, node(api.TChan, other), "chan ")
		wantOf(t, node(api.TFunc, other), "func()")
		wantOf(t, node(api.TFunc, other, intNode), "func()int")
		wantOf(t, node(api.TFunc, other, intNode, other), "func(,int)")
		wantOf(t, node(api.TFunc, intNode, other, other), "func(int,)")
		wantOf(t, node(api.TFunc, other, other, other, intNode), "func(,,)int")
	}
}

func TestOfMissingParts(t *testing.T) {
	wantOf(t, node(api.TSlice), "[]")
	wantOf(t, node(api.TChan), "chan ")
	wantOf(t, node(api.TFunc), "func()")
	wantOf(t, ptr(""), "*")
	wantOf(t, node(api.TSlice, node(api.TChan, node(api.TSlice))), "[]chan []")
	wantOf(t, node(api.TFunc, node(api.TSlice), node(api.TChan), node(api.TFunc)), "func([],chan )func()")
}

// TestOfIgnoresTheRest: what a kind doesn't name isn't asked.
func TestOfIgnoresTheRest(t *testing.T) {
	full := func(kind int, kids ...api.Node) api.Node {
		return api.Node{Kind: kind, Text: "x", Num: 1, At: 2, Type: "bool", Ref: 3, Kids: kids}
	}
	wantOf(t, full(api.TInt, ptr("T")), "int")
	wantOf(t, full(api.TBool, ptr("T")), "bool")
	wantOf(t, full(api.TString, ptr("T")), "string")
	wantOf(t, full(api.TPtr, ptr("T")), "*x")
	wantOf(t, full(api.TSlice, ptr("T"), intNode), "[]*T")
	wantOf(t, full(api.TChan, ptr("T"), intNode), "chan *T")
	wantOf(t, full(api.TFunc, ptr("T"), intNode), "func(*T)int")
	wantOf(t, ptr("int"), "*int")
	wantOf(t, ptr("a b"), "*a b")
	long := strings.Repeat("n", api.MaxName+1)
	wantOf(t, ptr(long), "*"+long)
}

func TestOfChangesNothing(t *testing.T) {
	make := func() api.Node {
		kids := make([]api.Node, 3, 5)
		kids[0], kids[1], kids[2] = intNode, node(api.TFunc, ptr("T"), none), none
		return node(api.TFunc, kids...)
	}
	given := make()
	types.Of(given)
	if !reflect.DeepEqual(given, make()) || !reflect.DeepEqual(given.Kids[:5], make().Kids[:5]) {
		t.Error("changed")
	}
}
