package monitor

import (
	"cloister/api"
	"cloister/boot"
	"cloister/cache"
	"cloister/core"
	"cloister/mmu"
	"cloister/tables"
	"cloister/tlb"
)

const (
	mostPeeked = 1 << 16
	addresses  = 1 << 32 // of a cell
)

// monitorOf is a machine's, of which nothing was looked for yet. It gives the
// machine an MMU of a cache and a TLB that are known here. (Of a configuration
// that is valid none of these is refused.)
func monitorOf(machine *boot.Machine) *Monitor {
	g := machine.Config
	m := &Monitor{machine: machine}
	m.cache, _ = cache.New(g.Shape)
	m.tlb, _ = tlb.New(g.Slots)
	machine.MMU, _ = mmu.New(machine.Memory, m.cache, m.tlb)
	for i, c := range g.Cells {
		machine.MMU.Root(i+1, machine.Roots[i])
		m.cells = append(m.cells, api.CellState{Regs: core.Reset(c.Entry)})
	}
	return m
}

func (m *Monitor) isCell(number int) bool { return number >= 1 && number <= len(m.cells) }

func (m *Monitor) cell(number int) *api.CellState { return &m.cells[number-1] }

func (m *Monitor) root(cell int) uint32 { return m.machine.Roots[cell-1] }

// seen is n bytes of a cell's memory; false: one lies in a page that it may not
// read. It goes by the tables alone, so that neither TLB nor cache are used.
func (m *Monitor) seen(cell int, at uint32, n int) ([]byte, bool) {
	var b []byte
	for len(b) < n {
		here := at + uint32(len(b))
		physical, _, fault := tables.Walk(m.machine.Memory, m.root(cell), here, api.AccessRead)
		if fault != api.FaultNone {
			return nil, false
		}
		ofPage := min(n-len(b), api.PageSize-int(here%api.PageSize))
		part, _ := m.machine.Memory.Read(physical, ofPage) // a walk without a fault leads into the memory
		b = append(b, part...)
	}
	return b, true
}
