package isa

import "cloister/api"

const (
	wordBits     = 32
	opPlace      = 26
	opBits       = wordBits - opPlace
	registerBits = 4
	nowhere      = 0 // a place at which no form has a register
)

// layout is where a form has what it names: each register's lowest bit, and
// how many bits, from 0 on, the number has.
type layout struct{ d, a, b, imm uint }

var layouts = [...]layout{
	api.FormDAB:  {d: 22, a: 18, b: 14},
	api.FormDAI:  {d: 22, a: 18, imm: 18},
	api.FormABI:  {a: 22, b: 18, imm: 18},
	api.FormDI:   {d: 22, imm: 22},
	api.FormD:    {d: 22},
	api.FormA:    {a: 22},
	api.FormI:    {imm: 26},
	api.FormNone: {},
}

func layoutOf(op api.Op) layout { return layouts[Form(op)] }

// wordOf writes an instruction that may be: what its form does not have is 0.
func wordOf(i api.Instr) uint32 {
	l := layoutOf(i.Op)
	registers := uint32(i.D)<<l.d | uint32(i.A)<<l.a | uint32(i.B)<<l.b
	return uint32(i.Op)<<opPlace | registers | uint32(i.Imm)&ones(l.imm)
}

// instrOf reads a word of an op; whether the op takes the number is not asked.
func instrOf(w uint32) api.Instr {
	op := api.Op(w >> opPlace)
	l := layoutOf(op)
	return api.Instr{
		Op:  op,
		D:   registerAt(w, l.d),
		A:   registerAt(w, l.a),
		B:   registerAt(w, l.b),
		Imm: immOf(w, op),
	}
}

func registerAt(w uint32, place uint) uint8 {
	return uint8(w & registerMask(place) >> place)
}

// immOf reads the number in the form's bits, which has a sign just where the
// op takes numbers below 0.
func immOf(w uint32, op api.Op) int32 {
	above := wordBits - layoutOf(op).imm
	if least, _ := immBounds(op); least < 0 {
		return int32(w<<above) >> above
	}
	return int32(w << above >> above)
}

// namedBits are all that an op's form names, with those of the op itself.
func namedBits(op api.Op) uint32 {
	l := layoutOf(op)
	registers := registerMask(l.d) | registerMask(l.a) | registerMask(l.b)
	return ones(opBits)<<opPlace | registers | ones(l.imm)
}

func registerMask(place uint) uint32 {
	if place == nowhere {
		return 0
	}
	return ones(registerBits) << place
}

// ones has the lowest n bits set.
func ones(n uint) uint32 { return 1<<n - 1 }
