package core

import (
	"cloister/api"
	"cloister/isa"
)

const (
	zero       = 0  // the register that is always 0
	told       = 14 // the register that tells the line of an interrupt
	instrBytes = 4
)

// step is one that is under way.
type step struct {
	regs   api.Regs
	bus    api.Bus
	instr  api.Instr
	next   uint32 // where the step leaves PC
	result api.Result
}

// interrupted takes an interrupt, if there is one that may be taken: it is the
// whole step then.
func (s *step) interrupted() bool {
	if !s.regs.On || s.regs.Handling {
		return false
	}
	line, there := s.bus.Irq()
	if !there {
		return false
	}
	s.regs.Back, s.regs.PC = s.regs.PC, s.regs.Vector
	s.regs.Handling = true
	s.regs.R[told] = uint32(line)
	s.result = api.Result{Kind: api.Taken, Cycles: api.CostIrq, Line: line}
	return true
}

// instruction does the one at PC. Nothing is written to a register ahead of
// the last fault that may be.
func (s *step) instruction() {
	s.next = s.regs.PC + instrBytes
	s.result.Kind = api.Stepped
	if s.fetched() {
		deeds()[s.instr.Op](s)
	}
	s.regs.PC = s.next
}

// fetched tells whether there is an instruction to be done.
func (s *step) fetched() bool {
	word, cycles, fault := s.bus.Fetch(s.regs.PC)
	s.result.Cycles = cycles + api.CostStep
	if fault != api.FaultNone {
		s.refuse(fault, s.regs.PC)
		return false
	}
	i, wrong := isa.Decode(word)
	if wrong != api.OK {
		s.refuse(api.FaultIllegal, s.regs.PC)
		return false
	}
	s.instr = i
	return true
}

// refuse ends the step with a fault.
func (s *step) refuse(fault api.Fault, at uint32) {
	s.result.Kind, s.result.Fault, s.result.Addr = api.Faulted, fault, at
	s.stay()
}

func (s *step) stay() { s.next = s.regs.PC }

func (s *step) a() uint32 { return s.regs.R[s.instr.A] }

func (s *step) b() uint32 { return s.regs.R[s.instr.B] }

func (s *step) n() uint32 { return uint32(s.instr.Imm) }

// other is b, or n in its place: so each op that has both is done as one.
func (s *step) other() uint32 {
	if isa.Form(s.instr.Op) == api.FormDAI {
		return s.n()
	}
	return s.b()
}

// set writes the register D.
func (s *step) set(v uint32) {
	if s.instr.D != zero {
		s.regs.R[s.instr.D] = v
	}
}
