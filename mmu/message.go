package mmu

import "cloister/api"

// Read reads bytes, word by word.
func (u *MMU) Read(cell int, at uint32, n int) ([]byte, int, api.Fault) {
	if !isMessage(at, n) {
		return nil, 0, api.FaultAlign
	}
	b := make([]byte, 0, n)
	cycles, fault := eachWord(n, func(offset int) (int, api.Fault) {
		v, cycles, fault := u.Load(cell, at+uint32(offset), wordSize)
		b = append(b, byte(v), byte(v>>8), byte(v>>16), byte(v>>24))
		return cycles, fault
	})
	if fault != api.FaultNone {
		return nil, cycles, fault
	}
	return b, cycles, api.FaultNone
}

// Write writes them, all or none.
func (u *MMU) Write(cell int, at uint32, b []byte) (int, api.Fault) {
	if !isMessage(at, len(b)) {
		return 0, api.FaultAlign
	}
	// All words are looked for ahead of the first that is laid down: it must
	// not be there if a later one is refused, nor have a say in where they go.
	var places [api.MaxMessage / wordSize]uint32
	looked, fault := eachWord(len(b), func(offset int) (int, api.Fault) {
		to, cycles, fault := u.Translate(cell, at+uint32(offset), api.AccessWrite)
		places[offset/wordSize] = to
		return cycles, fault
	})
	if fault != api.FaultNone {
		return looked, fault
	}
	laid, _ := eachWord(len(b), func(offset int) (int, api.Fault) {
		to := places[offset/wordSize]
		u.memory.Write(to, b[offset:offset+wordSize])
		return u.use(to, api.AccessWrite), api.FaultNone
	})
	return looked + laid, api.FaultNone
}

// isMessage tells whether a message of n bytes can stand there.
func isMessage(at uint32, n int) bool {
	return n >= 0 && n <= api.MaxMessage && n%wordSize == 0 && at%wordSize == 0
}

// eachWord has the words of a message go through a function, by their offsets:
// their cycles together. The first fault ends it.
func eachWord(n int, through func(offset int) (int, api.Fault)) (int, api.Fault) {
	all := 0
	for offset := 0; offset < n; offset += wordSize {
		cycles, fault := through(offset)
		all += cycles
		if fault != api.FaultNone {
			return all, fault
		}
	}
	return all, api.FaultNone
}
