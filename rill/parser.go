package rill

import "cloister/api"

// parser reads terms, from the token on at which it stands.
type parser struct {
	reader
	open int // brackets and unary signs that are not at an end
}

func newParser(source string) *parser {
	p := &parser{reader: reader{source: source}}
	p.step()
	return p
}

func (p *parser) is(text string) bool { return p.text == text }

// take goes on behind just this word or sign.
func (p *parser) take(text string) {
	p.hold(p.is(text), api.ErrRillSyntax)
	p.step()
}

// may goes on behind it, if it stands here.
func (p *parser) may(text string) bool {
	is := p.is(text)
	if is {
		p.step()
	}
	return is
}

// begin goes on behind a sign that has an end.
func (p *parser) begin(sign string) {
	p.hold(p.is(sign), api.ErrRillSyntax)
	p.hold(p.open < api.MaxNest, api.ErrRillDeep)
	p.open++
	p.step()
}

func (p *parser) end(bracket string) {
	p.take(bracket)
	p.open--
}

func (p *parser) name() string {
	name := p.text
	p.hold(isName(name), api.ErrRillSyntax)
	p.step()
	return name
}

func (p *parser) count() int32 {
	n := p.number
	p.hold(isNumber(p.text), api.ErrRillSyntax)
	p.step()
	return int32(n)
}

// here is a term that begins here.
func (p *parser) here(kind api.TermKind) branch {
	return branch{Term: api.Term{Kind: kind}, at: p.at}
}

func (p *parser) program() branch {
	b := branch{Term: api.Term{Kind: api.TermProgram}}
	for p.is("array") {
		b.kids = append(b.kids, p.array())
	}
	for p.is("func") {
		b.kids = append(b.kids, p.function())
	}
	p.hold(p.text == "", api.ErrRillSyntax)
	return b
}

func (p *parser) array() branch {
	b := p.here(api.TermArray)
	p.take("array")
	b.Text = p.name()
	p.begin("[")
	b.N = p.count()
	p.end("]")
	p.take(";")
	return b
}

func (p *parser) function() branch {
	b := p.here(api.TermFunction)
	p.take("func")
	b.Text = p.name()
	b.kids = append(p.listed(p.parameter), p.block())
	return b
}

func (p *parser) parameter() branch {
	b := p.here(api.TermName)
	b.Text = p.name()
	return b
}

// listed reads what stands in brackets, with commas between.
func (p *parser) listed(one func() branch) []branch {
	var all []branch
	p.begin("(")
	if !p.is(")") {
		all = append(all, one())
		for p.may(",") {
			all = append(all, one())
		}
	}
	p.end(")")
	return all
}
