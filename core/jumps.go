package core

func (s *step) goIfSame() { s.goIf(s.a() == s.b()) }

func (s *step) goIfNotSame() { s.goIf(s.a() != s.b()) }

func (s *step) goIfLessSigned() { s.goIf(lessSigned(s.a(), s.b())) }

func (s *step) goIfNotLessSigned() { s.goIf(!lessSigned(s.a(), s.b())) }

func (s *step) goIfLess() { s.goIf(s.a() < s.b()) }

func (s *step) goIfNotLess() { s.goIf(s.a() >= s.b()) }

func (s *step) goIf(yes bool) {
	if yes {
		s.next = s.target()
	}
}

// target is n instructions on.
func (s *step) target() uint32 { return s.regs.PC + instrBytes*s.n() }

func (s *step) call() {
	s.set(s.next)
	s.next = s.target()
}

func (s *step) callAt() {
	// worked out first: D may be A
	to := s.a() + s.n()
	s.set(s.next)
	s.next = to
}
