package lower

import (
	"slices"

	"derrick/api"
)

// captured are the variables that each function captures, rising. The last function is asked first: one that stands
// in another has a greater number than that one, to which it hands on what it captures.
func captured(u api.Unit) [][]int {
	lists := make([][]int, len(u.Funcs))
	for i, f := range slices.Backward(u.Funcs) {
		number := i + 1
		isOwn := func(v int) bool {
			owner := u.Vars[v-1].Func
			return owner == 0 || owner == number
		}
		uses := slices.DeleteFunc(named(f.Body, lists[i]), isOwn)
		slices.Sort(uses)
		lists[i] = slices.Compact(uses)
		if f.Outer > 0 {
			lists[f.Outer-1] = append(lists[f.Outer-1], lists[i]...)
		}
	}
	return lists
}

// named puts the variables that a function's tree names behind others; the trees of functions within are no part of it.
func named(n api.Node, uses []int) []int {
	if n.Kind == api.EName && n.Ref > 0 {
		uses = append(uses, n.Ref)
	}
	for _, kid := range n.Kids {
		uses = named(kid, uses)
	}
	return uses
}
