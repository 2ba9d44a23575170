package types

import (
	"strings"

	"derrick/api"
)

// Of is a node's type.
func Of(n api.Node) string {
	var b strings.Builder
	write(&b, n)
	return b.String()
}

// write lays a type's text behind what is there; of what is no type that is nothing.
func write(b *strings.Builder, n api.Node) {
	switch n.Kind {
	case api.TInt:
		b.WriteString("int")
	case api.TBool:
		b.WriteString("bool")
	case api.TString:
		b.WriteString("string")
	case api.TPtr:
		b.WriteString(pointer)
		b.WriteString(n.Text)
	case api.TSlice:
		b.WriteString(slice)
		writeItem(b, n.Kids)
	case api.TChan:
		b.WriteString(channel)
		writeItem(b, n.Kids)
	case api.TFunc:
		writeFunc(b, n.Kids)
	}
}

// writeItem writes the items' type, which may be missing.
func writeItem(b *strings.Builder, kids []api.Node) {
	if len(kids) > 0 {
		write(b, kids[0])
	}
}

// writeFunc writes a function's type of its params and its result, the last one.
func writeFunc(b *strings.Builder, kids []api.Node) {
	last := max(len(kids)-1, 0)
	b.WriteString(function)
	for i, param := range kids[:last] {
		if i > 0 {
			b.WriteString(",")
		}
		write(b, param)
	}
	b.WriteString(")")
	writeItem(b, kids[last:])
}
