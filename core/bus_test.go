package core_test

import (
	"slices"
	"testing"

	"cloister/api"
	"cloister/core"
	"cloister/isa"
)

// answers is what a bus answers in one step.
type answers struct {
	word       uint32
	fetching   int // cycles
	fetchFault api.Fault
	value      uint32
	moving     int // cycles of Load and Store
	moveFault  api.Fault
	clock      uint64
	line       int
	there      bool
}

// call is one of the bus.
type call struct {
	what string
	at   uint32
	size int
	v    uint32
}

// bus answers what it is to answer, and writes down what it was asked.
type bus struct {
	answers
	calls []call
}

func (b *bus) Fetch(pc uint32) (uint32, int, api.Fault) {
	b.calls = append(b.calls, call{what: "fetch", at: pc})
	return b.word, b.fetching, b.fetchFault
}

func (b *bus) Load(addr uint32, size int) (uint32, int, api.Fault) {
	b.calls = append(b.calls, call{what: "load", at: addr, size: size})
	return b.value, b.moving, b.moveFault
}

func (b *bus) Store(addr uint32, size int, v uint32) (int, api.Fault) {
	b.calls = append(b.calls, call{what: "store", at: addr, size: size, v: v})
	return b.moving, b.moveFault
}

func (b *bus) Clock() uint64 {
	b.calls = append(b.calls, call{what: "clock"})
	return b.clock
}

func (b *bus) Irq() (int, bool) {
	b.calls = append(b.calls, call{what: "irq"})
	return b.line, b.there
}

// outcome is what a step comes to.
type outcome struct {
	regs   api.Regs
	result api.Result
	calls  []call
}

func (o outcome) is(p outcome) bool {
	return o.regs == p.regs && o.result == p.result && slices.Equal(o.calls, p.calls)
}

func step(r api.Regs, x answers) outcome {
	b := &bus{answers: x}
	result := core.Step(&r, b)
	return outcome{r, result, b.calls}
}

func wordOf(t *testing.T, i api.Instr) uint32 {
	t.Helper()
	w, e := isa.Encode(i)
	if e != api.OK {
		t.Fatalf("isa.Encode(%v): %d", i, e)
	}
	return w
}

// same holds a step against what is asked of it.
func same(t *testing.T, what string, got, want outcome) {
	t.Helper()
	if !got.is(want) {
		t.Fatalf("%s:\n%v,\nasked for is\n%v", what, got, want)
	}
}

// fetchOf is the call that each step without an interrupt begins with.
func fetchOf(r api.Regs) call { return call{what: "fetch", at: r.PC} }

// someRegs are registers that all differ, of a guest in the middle of its life.
func someRegs() api.Regs {
	r := api.Regs{PC: 0x1000, Vector: 0x2000, Back: 0x3000}
	for n := range r.R {
		r.R[n] = 0x01010101 * uint32(n)
	}
	return r
}
