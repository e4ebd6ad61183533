package asm

import (
	"cloister/api"
	"cloister/isa"
)

// lowerBits are those of a word that li leaves to ori.
const lowerBits = 14

// statement is what one comes to as far as its line tells: whether its numbers
// may be is asked later, since labels that stand twice are told ahead of that.
type statement struct {
	drafts []draft
	zeros  int64 // words behind them
	moves  bool  // it says the origin
	origin int64
}

// statements that are no instructions, by their words.
func statements() map[string]func(*assembler) statement {
	return map[string]func(*assembler) statement{
		"li":    (*assembler).load,
		"mv":    (*assembler).move,
		"j":     (*assembler).jump,
		"call":  (*assembler).call,
		"ret":   (*assembler).comeBack,
		".org":  (*assembler).moveOrigin,
		".word": (*assembler).words,
		".zero": (*assembler).zeros,
	}
}

// statement reads what stands behind the labels, perhaps nothing.
func (a *assembler) statement() statement {
	if a.isEnd() {
		return statement{}
	}
	word := a.take().text
	if read, ok := a.statements[word]; ok {
		return read(a)
	}
	op, ok := isa.Named(word)
	if !ok {
		panic(a.wrong(api.ErrAsmSyntax))
	}
	i, v := a.operands(shapeOf(op))
	i.Op = op
	return instructions(draft{part: exact, instr: i, value: v})
}

func instructions(all ...draft) statement { return statement{drafts: all} }

// shapes are how the operands of each form are written, but for offsets.
var shapes = [...]string{
	api.FormDAB:  "D,A,B",
	api.FormDAI:  "D,A,V",
	api.FormABI:  "A,B,V",
	api.FormDI:   "D,V",
	api.FormD:    "D",
	api.FormA:    "A",
	api.FormI:    "V",
	api.FormNone: "",
}

func shapeOf(op api.Op) string {
	switch {
	case op >= api.OpLb && op <= api.OpLw:
		return "D,V(A)"
	case op >= api.OpSb && op <= api.OpSw:
		return "B,V(A)"
	}
	return shapes[isa.Form(op)]
}

func (a *assembler) load() statement {
	i, v := a.operands("D,V")
	return instructions(
		draft{part: upper, instr: api.Instr{Op: api.OpLui, D: i.D}, value: v},
		draft{part: lower, instr: api.Instr{Op: api.OpOri, D: i.D, A: i.D}, value: v},
	)
}

func (a *assembler) move() statement {
	i, v := a.operands("D,A")
	i.Op = api.OpAddi
	return instructions(draft{part: exact, instr: i, value: v})
}

func (a *assembler) jump() statement { return a.jumpKeeping(0) }

func (a *assembler) call() statement { return a.jumpKeeping(returnRegister) }

// jumpKeeping is a jump that keeps the place behind it in a register.
func (a *assembler) jumpKeeping(register uint8) statement {
	i, v := a.operands("V")
	i.Op, i.D = api.OpJal, register
	return instructions(draft{part: exact, instr: i, value: v})
}

func (a *assembler) comeBack() statement {
	return instructions(draft{part: exact, instr: api.Instr{Op: api.OpJalr, A: returnRegister}})
}

func (a *assembler) moveOrigin() statement {
	if a.moved || len(a.names) > 0 || len(a.labels) > 0 || len(a.drafts) > 0 {
		panic(a.wrong(api.ErrAsmSyntax))
	}
	return statement{moves: true, origin: a.number()}
}

func (a *assembler) words() statement {
	all := []draft{{part: whole, value: a.value()}}
	for !a.isEnd() {
		a.sign(",")
		all = append(all, draft{part: whole, value: a.value()})
	}
	return statement{drafts: all}
}

func (a *assembler) zeros() statement { return statement{zeros: a.number()} }
