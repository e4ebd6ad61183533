package rill

import "cloister/api"

func (p *parser) block() branch {
	b := p.here(api.TermBlock)
	p.begin("{")
	for !p.is("}") {
		b.kids = append(b.kids, p.statement())
	}
	p.end("}")
	return b
}

func (p *parser) statement() branch {
	switch p.text {
	case "var":
		return p.variable()
	case "if":
		return p.choice()
	case "while":
		return p.rounds()
	case "forever":
		return p.forever()
	case "return":
		return p.back()
	}
	return p.plain()
}

func (p *parser) variable() branch {
	b := p.here(api.TermVar)
	p.take("var")
	b.Text = p.name()
	p.take("=")
	return p.ended(b)
}

// ended reads the last value of a statement.
func (p *parser) ended(b branch) branch {
	b.kids = append(b.kids, p.value())
	p.take(";")
	return b
}

func (p *parser) choice() branch {
	b := p.here(api.TermIf)
	p.take("if")
	b.kids = []branch{p.value(), p.block()}
	if p.may("else") {
		b.kids = append(b.kids, p.block())
	}
	return b
}

func (p *parser) rounds() branch {
	b := p.here(api.TermWhile)
	p.take("while")
	v := p.value()
	p.take("bound")
	b.N = p.count()
	b.kids = []branch{v, p.block()}
	return b
}

func (p *parser) forever() branch {
	b := p.here(api.TermForever)
	p.take("forever")
	b.kids = []branch{p.block()}
	return b
}

func (p *parser) back() branch {
	b := p.here(api.TermReturn)
	p.take("return")
	return p.ended(b)
}

// plain reads a statement that begins as a value: what it is shows behind that.
func (p *parser) plain() branch {
	b := p.here(api.TermDo)
	v := p.value()
	if !p.is("=") {
		p.take(";")
		b.kids = []branch{v}
		return b
	}
	p.hold(v.at == b.at, api.ErrRillSyntax) // it would stand in brackets
	switch v.Kind {
	case api.TermName:
		b.Kind = api.TermSet
	case api.TermAt:
		b.Kind = api.TermPut
	default:
		p.hold(false, api.ErrRillSyntax)
	}
	p.take("=")
	b.Text, b.kids = v.Text, v.kids
	return p.ended(b)
}
