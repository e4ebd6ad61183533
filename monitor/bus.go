package monitor

import (
	"cloister/api"
	"cloister/boot"
)

// bus is what a cell's processor steps on, at a tick.
type bus struct {
	machine *boot.Machine
	cell    int
	tick    uint64
}

// Fetch reads an instruction.
func (b bus) Fetch(pc uint32) (uint32, int, api.Fault) { return b.machine.MMU.Fetch(b.cell, pc) }

// Load reads a number.
func (b bus) Load(addr uint32, size int) (uint32, int, api.Fault) {
	return b.machine.MMU.Load(b.cell, addr, size)
}

// Store writes one.
func (b bus) Store(addr uint32, size int, v uint32) (int, api.Fault) {
	return b.machine.MMU.Store(b.cell, addr, size, v)
}

// Clock is when the step began.
func (b bus) Clock() uint64 { return b.tick }

// Irq takes a line of the cell, if one waits.
func (b bus) Irq() (int, bool) { return b.machine.Gic.Take(b.cell) }
