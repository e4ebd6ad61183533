package core

import "cloister/api"

// Bytes of the numbers that are loaded and stored.
const (
	inByte = 1
	inHalf = 2
	inWord = 4
)

func (s *step) loadSignedByte() {
	s.load(inByte, func(v uint32) uint32 { return uint32(int8(v)) })
}

func (s *step) loadByte() {
	s.load(inByte, func(v uint32) uint32 { return uint32(uint8(v)) })
}

func (s *step) loadSignedHalf() {
	s.load(inHalf, func(v uint32) uint32 { return uint32(int16(v)) })
}

func (s *step) loadHalf() {
	s.load(inHalf, func(v uint32) uint32 { return uint32(uint16(v)) })
}

func (s *step) loadWord() {
	s.load(inWord, func(v uint32) uint32 { return v })
}

// load brings a number; widen makes 32 bits of its own, and looks at no others.
func (s *step) load(size int, widen func(uint32) uint32) {
	at := s.a() + s.n()
	v, cycles, fault := s.bus.Load(at, size)
	s.result.Cycles += cycles
	if fault != api.FaultNone {
		s.refuse(fault, at)
		return
	}
	s.result.Addr, s.result.Loaded, s.result.Value = at, true, widen(v)
	s.set(s.result.Value)
}

func (s *step) storeByte() { s.store(inByte, uint32(uint8(s.b()))) }

func (s *step) storeHalf() { s.store(inHalf, uint32(uint16(s.b()))) }

func (s *step) storeWord() { s.store(inWord, s.b()) }

func (s *step) store(size int, v uint32) {
	at := s.a() + s.n()
	cycles, fault := s.bus.Store(at, size, v)
	s.result.Cycles += cycles
	if fault != api.FaultNone {
		s.refuse(fault, at)
	}
}
