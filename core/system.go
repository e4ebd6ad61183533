package core

import "cloister/api"

func (s *step) trap() { s.result.Kind, s.result.Number = api.Trapped, s.n() }

func (s *step) readClock() {
	s.result.Read, s.result.Clock = true, s.bus.Clock()
	s.set(uint32(s.result.Clock))
}

func (s *step) wait() { s.result.Kind = api.Waiting }

func (s *step) allow() { s.regs.On = true }

func (s *step) forbid() { s.regs.On = false }

// comeBack leaves an interrupt, if one is under way.
func (s *step) comeBack() {
	if !s.regs.Handling {
		s.refuse(api.FaultIllegal, s.regs.PC)
		return
	}
	s.next, s.regs.Handling = s.regs.Back, false
}

func (s *step) setVector() { s.regs.Vector = s.a() }

func (s *step) halt() {
	s.result.Kind = api.Halted
	s.stay()
}

func (s *step) nothing() {}
