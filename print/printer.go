package print

import (
	"strings"

	"derrick/api"
)

// printer is the text so far, and the depth of the statement that is being written: what that
// statement holds, functions in its expressions too, is indented from there.
type printer struct {
	strings.Builder
	depth int
}

// unknown stands for a part that is missing, or of a kind that has no form where it stands.
func (p *printer) unknown() {
	p.WriteByte('?')
}

// part is a kid of a node. One that is missing is the zero Node: it is of no kind, and so it comes out as unknown.
func part(n api.Node, i int) api.Node {
	if i < 0 || i >= len(n.Kids) {
		return api.Node{}
	}
	return n.Kids[i]
}

func isNone(n api.Node) bool {
	return n.Kind == api.NNone
}

// from is a node's kids behind the first ones, however few it has.
func from(n api.Node, first int) []api.Node {
	return n.Kids[min(first, len(n.Kids)):]
}

// untilLast is a node's kids ahead of its last one, however few it has.
func untilLast(n api.Node) []api.Node {
	return n.Kids[:max(len(n.Kids)-1, 0)]
}

func last(n api.Node) api.Node {
	return part(n, len(n.Kids)-1)
}

// list writes items with commas between.
func (p *printer) list(items []api.Node, write func(api.Node)) {
	for i, item := range items {
		if i > 0 {
			p.WriteString(", ")
		}
		write(item)
	}
}

// unlessNone writes a part with a text ahead of it, or nothing of a part that is none.
func (p *printer) unlessNone(ahead string, n api.Node, write func(api.Node)) {
	if isNone(n) {
		return
	}
	p.WriteString(ahead)
	write(n)
}

func (p *printer) tabs() {
	for range p.depth {
		p.WriteByte('\t')
	}
}

// lines writes items a line each, a tab deeper than what they stand in.
func (p *printer) lines(items []api.Node, write func(api.Node)) {
	p.depth++
	for _, item := range items {
		p.tabs()
		write(item)
		p.WriteByte('\n')
	}
	p.depth--
}
