package asm

import "cloister/api"

// value is what stands in the place of a number: the number, or a label's name.
type value struct {
	name   string
	number int64
}

// take is the next token; at the end of the line it is tokenEnd, again and again.
func (l *line) take() token {
	if l.isEnd() {
		return token{}
	}
	t := l.rest[0]
	l.rest = l.rest[1:]
	return t
}

func (l *line) isEnd() bool { return len(l.rest) == 0 }

// end holds that nothing stands behind what was read.
func (l *line) end() {
	if !l.isEnd() {
		panic(l.wrong(api.ErrAsmSyntax))
	}
}

func (l *line) sign(s string) {
	if t := l.take(); t.kind != tokenSign || t.text != s {
		panic(l.wrong(api.ErrAsmSyntax))
	}
}

func (l *line) register() uint8 {
	n, ok := registerOf(l.take().text)
	if !ok {
		panic(l.wrong(api.ErrAsmSyntax))
	}
	return n
}

func (l *line) number() int64 {
	t := l.take()
	if t.kind != tokenNumber {
		panic(l.wrong(api.ErrAsmSyntax))
	}
	return t.number
}

func (l *line) value() value {
	t := l.take()
	switch {
	case t.kind == tokenNumber:
		return value{number: t.number}
	case isName(t.text):
		return value{name: t.text}
	}
	panic(l.wrong(api.ErrAsmSyntax))
}

// operands reads what a shape asks for: registers D, A and B, a value V, and
// signs, each a letter of it.
func (l *line) operands(shape string) (api.Instr, value) {
	var i api.Instr
	var v value
	for _, what := range shape {
		switch what {
		case 'D':
			i.D = l.register()
		case 'A':
			i.A = l.register()
		case 'B':
			i.B = l.register()
		case 'V':
			v = l.value()
		default:
			l.sign(string(what))
		}
	}
	return i, v
}
