package isa

import (
	"strconv"
	"strings"

	"cloister/api"
)

// Text writes an instruction as a text.
func Text(i api.Instr) string {
	if check(i) != api.OK {
		return ""
	}
	all := operands(i)
	if len(all) == 0 {
		return Name(i.Op)
	}
	return Name(i.Op) + " " + strings.Join(all, ", ")
}

// operands stand in the order D, A, B, Imm, as far as the form has them; but A
// stands behind a number that is an offset to it.
func operands(i api.Instr) []string {
	l, isOffset := layoutOf(i.Op), rowOf(i.Op).takes == offset
	var all []string
	if l.d != nowhere {
		all = append(all, register(i.D))
	}
	if l.a != nowhere && !isOffset {
		all = append(all, register(i.A))
	}
	if l.b != nowhere {
		all = append(all, register(i.B))
	}
	if isOffset {
		return append(all, number(i.Imm)+"("+register(i.A)+")")
	}
	if l.imm > 0 {
		all = append(all, number(i.Imm))
	}
	return all
}

func register(n uint8) string { return "r" + number(int32(n)) }

func number(n int32) string { return strconv.Itoa(int(n)) }
