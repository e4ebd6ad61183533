package core_test

import (
	"cloister/api"
	"cloister/isa"
)

// The model says what a step comes to in the chapter's words: numbers without
// bounds, taken modulo 2 to the 32 in the end.

const whole = 1 << 32

func modulo(x int64) uint32 { return uint32((x%whole + whole) % whole) }

func withSign(x uint32) int64 {
	if x >= whole/2 {
		return int64(x) - whole
	}
	return int64(x)
}

func power(n int64) uint64 {
	p := uint64(1)
	for range n {
		p *= 2
	}
	return p
}

func bits(a, b uint32, set func(x, y bool) bool) uint32 {
	sum := uint64(0)
	for n := range int64(32) {
		p := power(n)
		if set(uint64(a)/p%2 == 1, uint64(b)/p%2 == 1) {
			sum += p
		}
	}
	return uint32(sum)
}

func number(yes bool) uint32 {
	if yes {
		return 1
	}
	return 0
}

// worked is what d is of the ops that work out a number of two; false of all
// other ops.
func worked(name string, a, b uint32) (uint32, bool) {
	places := int64(b % 32)
	switch name {
	case "add", "addi":
		return modulo(int64(a) + int64(b)), true
	case "sub":
		return modulo(int64(a) - int64(b)), true
	case "mul":
		return uint32(uint64(a) * uint64(b) % whole), true
	case "divu":
		if b == 0 {
			return 4294967295, true
		}
		return uint32(uint64(a) / uint64(b)), true
	case "remu":
		if b == 0 {
			return a, true
		}
		return uint32(uint64(a) - uint64(a)/uint64(b)*uint64(b)), true
	case "and", "andi":
		return bits(a, b, func(x, y bool) bool { return x && y }), true
	case "or", "ori":
		return bits(a, b, func(x, y bool) bool { return x || y }), true
	case "xor", "xori":
		return bits(a, b, func(x, y bool) bool { return x != y }), true
	case "shl", "shli":
		return uint32(uint64(a) * power(places) % whole), true
	case "shr", "shri":
		return uint32(uint64(a) / power(places)), true
	case "sar", "sari":
		v := uint64(a) / power(places)
		if a >= whole/2 {
			v += whole - power(32-places)
		}
		return uint32(v), true
	case "slt", "slti":
		return number(withSign(a) < withSign(b)), true
	case "sltu", "sltui":
		return number(uint64(a) < uint64(b)), true
	}
	return 0, false
}

func goes(name string, a, b uint32) bool {
	switch name {
	case "beq":
		return a == b
	case "bne":
		return a != b
	case "blt":
		return withSign(a) < withSign(b)
	case "bge":
		return withSign(a) >= withSign(b)
	case "bltu":
		return uint64(a) < uint64(b)
	case "bgeu":
		return uint64(a) >= uint64(b)
	}
	return false
}

func sizeOf(name string) int {
	return map[string]int{"lb": 1, "lbu": 1, "lh": 2, "lhu": 2, "lw": 4, "sb": 1, "sh": 2, "sw": 4}[name]
}

// widened is what d is of a number that was loaded.
func widened(name string, v uint32) uint32 {
	switch name {
	case "lb":
		v %= 1 << 8
		return v + number(v >= 1<<7)*(whole-1<<8)
	case "lbu":
		return v % (1 << 8)
	case "lh":
		v %= 1 << 16
		return v + number(v >= 1<<15)*(whole-1<<16)
	case "lhu":
		return v % (1 << 16)
	}
	return v
}

func cyclesOf(all ...int) int {
	sum := uint64(api.CostStep)
	for _, n := range all {
		sum += uint64(n)
	}
	return int(sum)
}

func faulted(r api.Regs, calls []call, fault api.Fault, at uint32, cycles ...int) outcome {
	return outcome{r, api.Result{Kind: api.Faulted, Fault: fault, Addr: at, Cycles: cyclesOf(cycles...)}, calls}
}

// model is what a step comes to.
func model(r api.Regs, x answers) outcome {
	r.R[0] = 0
	var calls []call
	if r.On && !r.Handling {
		calls = append(calls, call{what: "irq"})
		if x.there {
			r.Back, r.PC, r.Handling = r.PC, r.Vector, true
			r.R[14] = modulo(int64(x.line))
			return outcome{r, api.Result{Kind: api.Taken, Cycles: 4, Line: x.line}, calls}
		}
	}
	calls = append(calls, call{what: "fetch", at: r.PC})
	if x.fetchFault != api.FaultNone {
		return faulted(r, calls, x.fetchFault, r.PC, x.fetching)
	}
	i, wrong := isa.Decode(x.word)
	if wrong != api.OK || i.Op == api.OpEret && !r.Handling {
		return faulted(r, calls, api.FaultIllegal, r.PC, x.fetching)
	}
	if size := sizeOf(isa.Name(i.Op)); size > 0 {
		return moved(r, x, i, size, calls)
	}
	return done(r, x, i, calls)
}

// moved: Load and Store.
func moved(r api.Regs, x answers, i api.Instr, size int, calls []call) outcome {
	name := isa.Name(i.Op)
	at := modulo(int64(r.R[i.A]) + int64(i.Imm))
	if name[0] == 's' {
		v := uint32(uint64(r.R[i.B]) % power(int64(8*size)))
		calls = append(calls, call{what: "store", at: at, size: size, v: v})
	} else {
		calls = append(calls, call{what: "load", at: at, size: size})
	}
	if x.moveFault != api.FaultNone {
		return faulted(r, calls, x.moveFault, at, x.fetching, x.moving)
	}
	result := api.Result{Kind: api.Stepped, Cycles: cyclesOf(x.fetching, x.moving)}
	if name[0] == 'l' {
		result.Addr, result.Loaded, result.Value = at, true, widened(name, x.value)
		r.R[i.D] = result.Value
	}
	r.R[0] = 0
	r.PC = modulo(int64(r.PC) + 4)
	return outcome{r, result, calls}
}

// done: all others.
func done(r api.Regs, x answers, i api.Instr, calls []call) outcome {
	name, a, b := isa.Name(i.Op), r.R[i.A], r.R[i.B]
	next, far := modulo(int64(r.PC)+4), modulo(int64(r.PC)+4*int64(i.Imm))
	result := api.Result{Kind: api.Stepped, Cycles: cyclesOf(x.fetching)}
	with := b
	if isa.Form(i.Op) == api.FormDAI {
		with = modulo(int64(i.Imm))
	}
	d, known := worked(name, a, with)
	if known {
		r.R[i.D] = d
	}
	if goes(name, a, b) {
		next = far
	}
	switch name {
	case "lui":
		r.R[i.D] = modulo(int64(i.Imm) * 16384)
	case "jal":
		r.R[i.D], next = next, far
	case "jalr":
		r.R[i.D], next = next, modulo(int64(a)+int64(i.Imm))
	case "hcall":
		result.Kind, result.Number = api.Trapped, uint32(i.Imm)
	case "clock":
		calls = append(calls, call{what: "clock"})
		result.Read, result.Clock = true, x.clock
		r.R[i.D] = uint32(x.clock % whole)
	case "wait":
		result.Kind = api.Waiting
	case "ei", "di":
		r.On = name == "ei"
	case "eret":
		next, r.Handling = r.Back, false
	case "vec":
		r.Vector = a
	case "halt":
		result.Kind, next = api.Halted, r.PC
	}
	r.PC, r.R[0] = next, 0
	return outcome{r, result, calls}
}
