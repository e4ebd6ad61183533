package rill

import "cloister/api"

func (p *parser) value() branch { return p.climb(lowestLevel) }

// climb reads a value, and what signs of this level or a higher one make of it.
func (p *parser) climb(least int) branch {
	left := p.bound()
	for level := levelOf(p.text); level >= least; level = levelOf(p.text) {
		b := branch{Term: api.Term{Kind: api.TermBinary, Text: p.text}, at: left.at}
		p.step()
		b.kids = []branch{left, p.climb(level + 1)}
		left = b
	}
	return left
}

// bound reads a value up to the next binary sign.
func (p *parser) bound() branch {
	switch {
	case isUnary(p.text):
		return p.unary()
	case isNumber(p.text):
		b := p.here(api.TermNumber)
		b.N = p.count()
		return b
	case isName(p.text) || isBuiltIn(p.text):
		return p.named()
	}
	p.begin("(")
	v := p.value()
	p.end(")")
	return v
}

func (p *parser) unary() branch {
	b := p.here(api.TermUnary)
	b.Text = p.text
	p.begin(b.Text)
	b.kids = []branch{p.bound()}
	p.open--
	return b
}

func (p *parser) named() branch {
	b := p.here(api.TermName)
	b.Text = p.text
	p.step()
	switch {
	case p.is("(") || isBuiltIn(b.Text):
		b.Kind, b.kids = api.TermCall, p.listed(p.value)
	case p.is("["):
		b.Kind = api.TermAt
		p.begin("[")
		b.kids = []branch{p.value()}
		p.end("]")
	}
	return b
}
