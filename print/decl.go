package print

import "derrick/api"

func (p *printer) file(n api.Node) {
	if n.Kind != api.NFile {
		p.unknown()
		return
	}
	for _, decl := range n.Kids {
		p.decl(decl)
		p.WriteByte('\n')
	}
}

func (p *printer) decl(n api.Node) {
	switch n.Kind {
	case api.NTypeDecl:
		p.WriteString("type " + n.Text + " struct {\n")
		p.lines(n.Kids, p.field)
		p.WriteByte('}')
	case api.NVarDecl:
		p.WriteString("var ")
		p.typed(n)
	case api.NFuncDecl:
		p.WriteString("func " + n.Text)
		p.function(n)
	default:
		p.unknown()
	}
}

// typed writes a node's name and its type.
func (p *printer) typed(n api.Node) {
	p.WriteString(n.Text + " ")
	p.writtenType(part(n, 0))
}

func (p *printer) field(n api.Node) {
	if n.Kind != api.NField {
		p.unknown()
		return
	}
	p.typed(n)
}

func (p *printer) param(n api.Node) {
	if n.Kind != api.NParam {
		p.unknown()
		return
	}
	p.typed(n)
}

// function writes what stands behind a function's name or, in an expression, behind its word.
func (p *printer) function(n api.Node) {
	p.WriteByte('(')
	p.params(part(n, 0))
	p.WriteByte(')')
	p.unlessNone(" ", part(n, 1), p.writtenType)
	p.WriteByte(' ')
	p.block(part(n, 2))
}

func (p *printer) params(n api.Node) {
	if n.Kind != api.NParams {
		p.unknown()
		return
	}
	p.list(n.Kids, p.param)
}

func (p *printer) writtenType(n api.Node) {
	switch n.Kind {
	case api.TInt:
		p.WriteString("int")
	case api.TBool:
		p.WriteString("bool")
	case api.TString:
		p.WriteString("string")
	case api.TPtr:
		p.WriteString("*" + n.Text)
	case api.TSlice:
		p.WriteString("[]")
		p.writtenType(part(n, 0))
	case api.TChan:
		p.WriteString("chan ")
		p.writtenType(part(n, 0))
	case api.TFunc:
		p.WriteString("func(")
		p.list(untilLast(n), p.writtenType)
		p.WriteByte(')')
		p.unlessNone(" ", last(n), p.writtenType)
	default:
		p.unknown()
	}
}
