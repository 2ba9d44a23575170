package parse

import "derrick/api"

func (p *parser) file() api.Node {
	file := api.Node{Kind: api.NFile}
	for p.token().Kind != api.End {
		file.Kids = append(file.Kids, p.decl())
		p.want("file", ";")
	}
	return file
}

func (p *parser) decl() api.Node {
	switch p.sign() {
	case "type":
		return p.typeDecl()
	case "var":
		at := p.take().At
		n := p.named(api.NVarDecl)
		n.At = at
		return n
	case "func":
		at := p.take().At
		name := p.wantName("decl").Text
		return api.Node{Kind: api.NFuncDecl, Text: name, At: at, Kids: p.function()}
	}
	panic(p.broken("decl"))
}

func (p *parser) typeDecl() api.Node {
	n := api.Node{Kind: api.NTypeDecl, At: p.take().At}
	n.Text = p.wantName("decl").Text
	p.want("decl", "struct")
	p.want("decl", "{")
	for !p.skip("}") {
		n.Kids = append(n.Kids, p.named(api.NField))
		p.want("field", ";")
	}
	return n
}

// named parses a name and its type.
func (p *parser) named(kind int) api.Node {
	name := p.wantName("name")
	return api.Node{Kind: kind, Text: name.Text, At: name.At, Kids: []api.Node{p.writtenType()}}
}

// function parses a signature and its block: the params, the result or none, the block.
func (p *parser) function() []api.Node {
	params := api.Node{Kind: api.NParams, At: p.want("signature", "(").At}
	params.Kids = p.listed(func() api.Node { return p.named(api.NParam) })
	result := p.result()
	return []api.Node{params, result, within(p, false, p.block)}
}

// listed parses items with commas between up to the parenthesis that closes them.
func (p *parser) listed(item func() api.Node) []api.Node {
	if p.skip(")") {
		return nil
	}
	items := []api.Node{item()}
	for p.skip(",") {
		items = append(items, item())
	}
	p.want("list", ")")
	return items
}

// result parses the type behind a function's parameters. Nothing else that may stand there begins as a type does.
func (p *parser) result() api.Node {
	if p.is("int", "bool", "string", "*", "[", "chan", "func") {
		return p.writtenType()
	}
	return none()
}

func (p *parser) writtenType() api.Node {
	at := p.token().At
	switch p.sign() {
	case "int":
		p.take()
		return api.Node{Kind: api.TInt, At: at}
	case "bool":
		p.take()
		return api.Node{Kind: api.TBool, At: at}
	case "string":
		p.take()
		return api.Node{Kind: api.TString, At: at}
	case "*":
		p.take()
		return api.Node{Kind: api.TPtr, Text: p.wantName("type").Text, At: at}
	case "[":
		p.take()
		p.want("type", "]")
		return api.Node{Kind: api.TSlice, At: at, Kids: []api.Node{p.writtenType()}}
	case "chan":
		p.take()
		return api.Node{Kind: api.TChan, At: at, Kids: []api.Node{p.writtenType()}}
	case "func":
		p.take()
		p.want("type", "(")
		types := p.listed(p.writtenType)
		return api.Node{Kind: api.TFunc, At: at, Kids: append(types, p.result())}
	}
	panic(p.broken("type"))
}
