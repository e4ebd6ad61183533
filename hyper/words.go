package hyper

import "cloister/api"

// wordBytes is how many bytes are copied at once.
const wordBytes = 4

// refused is what a call is given up with, by panic: a word that could not be
// loaded or stored.
type refused struct {
	fault api.Fault
	at    uint32
}

// load copies n bytes out of the cell's memory.
func (c *call) load(at, n uint32) []byte {
	var b []byte
	for offset := uint32(0); offset < n; offset += wordBytes {
		v, cycles, fault := c.machine.MMU.Load(c.cell, at+offset, wordBytes)
		c.made(at+offset, cycles, fault)
		b = append(b, byte(v), byte(v>>8), byte(v>>16), byte(v>>24))
	}
	return b
}

// store copies bytes into it. (Not by the MMU's Write, which stores none if
// one is refused.)
func (c *call) store(at uint32, b []byte) {
	for ; len(b) >= wordBytes; b = b[wordBytes:] {
		v := uint32(b[0]) | uint32(b[1])<<8 | uint32(b[2])<<16 | uint32(b[3])<<24
		cycles, fault := c.machine.MMU.Store(c.cell, at, wordBytes, v)
		c.made(at, cycles, fault)
		at += wordBytes
	}
}

// made counts what an access took, and gives the call up if it was refused.
func (c *call) made(at uint32, cycles int, fault api.Fault) {
	c.answer.Cycles += cycles
	if fault != api.FaultNone {
		panic(refused{fault, at})
	}
}

// givenUp is the answer to a call that was given up. If that is by no access,
// the machine was not booted, and lacks the part that was asked: it is answered
// as if there were none.
func (c *call) givenUp(given any) Answer {
	r, ok := given.(refused)
	if !ok {
		return Answer{}
	}
	return Answer{Cycles: c.answer.Cycles, Fault: r.fault, Addr: r.at}
}
