package core

import "math"

const (
	lowerBits = 14 // those that lui leaves 0
	moves     = 32 // a number is moved by fewer bits than these
)

func (s *step) add() { s.set(s.a() + s.other()) }

func (s *step) subtract() { s.set(s.a() - s.b()) }

func (s *step) multiply() { s.set(s.a() * s.b()) }

func (s *step) divide() {
	if s.b() == 0 {
		s.set(math.MaxUint32)
		return
	}
	s.set(s.a() / s.b())
}

func (s *step) remain() {
	if s.b() == 0 {
		s.set(s.a())
		return
	}
	s.set(s.a() % s.b())
}

func (s *step) and() { s.set(s.a() & s.other()) }

func (s *step) or() { s.set(s.a() | s.other()) }

func (s *step) differ() { s.set(s.a() ^ s.other()) }

func (s *step) moveLeft() { s.set(s.a() << (s.other() % moves)) }

func (s *step) moveRight() { s.set(s.a() >> (s.other() % moves)) }

func (s *step) moveSigned() { s.set(uint32(int32(s.a()) >> (s.other() % moves))) }

func (s *step) compareSigned() { s.setWhether(lessSigned(s.a(), s.other())) }

func (s *step) compare() { s.setWhether(s.a() < s.other()) }

func (s *step) upper() { s.set(s.n() << lowerBits) }

func lessSigned(a, b uint32) bool { return int32(a) < int32(b) }

func (s *step) setWhether(yes bool) {
	if yes {
		s.set(1)
		return
	}
	s.set(0)
}
