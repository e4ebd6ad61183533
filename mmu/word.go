package mmu

import "cloister/api"

// wordSize is how many bytes an instruction, and a word of a message, has.
const wordSize = 4

// Fetch reads an instruction.
func (u *MMU) Fetch(cell int, at uint32) (uint32, int, api.Fault) {
	return u.get(cell, at, wordSize, api.AccessExec)
}

// Load reads a number.
func (u *MMU) Load(cell int, at uint32, size int) (uint32, int, api.Fault) {
	return u.get(cell, at, size, api.AccessRead)
}

// Store writes one.
func (u *MMU) Store(cell int, at uint32, size int, v uint32) (int, api.Fault) {
	to, cycles, fault := u.reach(cell, at, size, api.AccessWrite)
	if fault != api.FaultNone {
		return cycles, fault
	}
	u.memory.Store(to, size, v)
	return cycles, api.FaultNone
}

// get reads a number, for that access.
func (u *MMU) get(cell int, at uint32, size int, a api.Access) (uint32, int, api.Fault) {
	to, cycles, fault := u.reach(cell, at, size, a)
	if fault != api.FaultNone {
		return 0, cycles, fault
	}
	v, _ := u.memory.Load(to, size)
	return v, cycles, api.FaultNone
}

// reach is where a number is, and what it costs to find and to use it. What is
// found lies in the memory and is aligned, as pages are: memory refuses none.
func (u *MMU) reach(cell int, at uint32, size int, a api.Access) (uint32, int, api.Fault) {
	if !isAligned(at, size) {
		return 0, 0, api.FaultAlign
	}
	to, cycles, fault := u.Translate(cell, at, a)
	if fault != api.FaultNone {
		return 0, cycles, fault
	}
	return to, cycles + u.use(to, a), api.FaultNone
}

// isAligned tells whether a number of that size can stand there.
func isAligned(at uint32, size int) bool {
	switch size {
	case 1, 2, 4:
		return at%uint32(size) == 0
	}
	return false
}
