package core_test

import (
	"testing"

	"cloister/api"
	"cloister/arena"
	"cloister/asm"
	"cloister/cache"
	"cloister/core"
	"cloister/gic"
	"cloister/memory"
	"cloister/mmu"
	"cloister/tables"
	"cloister/tlb"
)

// machine is a bus of the layers below: one cell with a page for its program,
// and a page for its data. It is a bus as a value, too.
type machine struct {
	mmu  *mmu.MMU
	gic  *gic.Gic
	now  *uint64
	data *memory.Memory
}

const (
	cell        = 1
	programPage = 0x1000
	dataPage    = 0x400000
)

func (m machine) Fetch(pc uint32) (uint32, int, api.Fault) { return m.mmu.Fetch(cell, pc) }

func (m machine) Load(addr uint32, size int) (uint32, int, api.Fault) {
	return m.mmu.Load(cell, addr, size)
}

func (m machine) Store(addr uint32, size int, v uint32) (int, api.Fault) {
	return m.mmu.Store(cell, addr, size, v)
}

func (m machine) Clock() uint64 { return *m.now }

func (m machine) Irq() (int, bool) { return m.gic.Take(cell) }

func machineOf(t *testing.T, program string) machine {
	t.Helper()
	image, e, line := asm.Assemble(program)
	if e != api.OK {
		t.Fatalf("line %d: %d", line, e)
	}
	m, _ := memory.New(8)
	for n, w := range image.Words {
		m.Store(5*api.PageSize+uint32(4*n), 4, w)
	}
	a, _ := arena.New(m, 0, 4)
	s, _ := tables.New(a)
	e = s.Map(
		api.Range{Virtual: programPage, Physical: 5 * api.PageSize, Pages: 1, Perm: api.Read | api.Exec},
		api.Range{Virtual: dataPage, Physical: 6 * api.PageSize, Pages: 1, Perm: api.Read | api.Write},
	)
	c, wrong := cache.New(api.Shape{Sets: 16, Ways: 8, Line: 16})
	b, none := tlb.New(4)
	u, without := mmu.New(m, c, b)
	if e != api.OK || wrong != api.OK || none != api.OK || without != api.OK || u.Root(cell, s.Root()) != api.OK {
		t.Fatal("no machine")
	}
	g := gic.New()
	g.Route(3, cell)
	return machine{u, g, new(uint64), m}
}

// run does steps until one is none of an ordinary kind, and counts their ticks.
func (m machine) run(t *testing.T, r *api.Regs) api.Result {
	t.Helper()
	for range 1000 {
		result := core.Step(r, m)
		*m.now += uint64(result.Cycles)
		if result.Kind != api.Stepped && result.Kind != api.Taken {
			return result
		}
	}
	t.Fatal("it does not end")
	return api.Result{}
}

// TestFirstStep: an empty TLB and an empty cache: two entries and the word
// are three misses; the next instruction costs its hit and itself.
func TestFirstStep(t *testing.T) {
	m := machineOf(t, ".org 0x1000\nnop\nnop")
	r := core.Reset(programPage)
	for n, cycles := range []int{37, 2} {
		if got := core.Step(&r, m); got != (api.Result{Kind: api.Stepped, Cycles: cycles}) {
			t.Errorf("step %d: %v", n, got)
		}
	}
}

func TestPrograms(t *testing.T) {
	m := machineOf(t, `
.org 0x1000
     li r2, 0x400000
     addi r3, r0, 10
top: add r4, r4, r3
     addi r3, r3, -1
     bne r3, r0, top
     sw r4, 8(r2)
     lb r5, 8(r2)
     call twice
     hcall 7
     halt
twice: add r5, r5, r5
     ret`)
	r := core.Reset(programPage)
	if got := m.run(t, &r); got.Kind != api.Trapped || got.Number != 7 || r.R[4] != 55 || r.R[5] != 110 {
		t.Fatalf("%v, %v", got, r)
	}
	if v, _ := m.data.Load(6*api.PageSize+8, 4); v != 55 {
		t.Errorf("in memory is %d", v)
	}
	at := r.PC
	if got := m.run(t, &r); got.Kind != api.Halted || r.PC != at {
		t.Errorf("%v, %v", got, r)
	}
}

// TestLinesOfAMachine: a line that was raised is taken ahead of the step at
// which the guest may take it, once; its handler comes back to where it was.
func TestLinesOfAMachine(t *testing.T) {
	m := machineOf(t, `
.org 0x1000
     li r1, handler
     vec r1
     ei
     add r2, r2, r14
     wait
     halt
handler: addi r3, r3, 1
     eret`)
	m.gic.Raise(3)
	r := core.Reset(programPage)
	if got := m.run(t, &r); got.Kind != api.Waiting || r.R[2] != 3 || r.R[3] != 1 || r.Handling {
		t.Fatalf("%v, %v", got, r)
	}
	if got := m.run(t, &r); got.Kind != api.Halted || r.R[3] != 1 {
		t.Errorf("%v, %v", got, r)
	}
}

// TestRefusedByTables: what a guest may not touch ends it where it stands.
func TestRefusedByTables(t *testing.T) {
	for _, c := range []struct {
		program string
		fault   api.Fault
		at, pc  uint32
	}{
		{"sw r0, 0(r1)", api.FaultDenied, programPage, programPage + 8},
		{"lw r0, 2(r1)", api.FaultAlign, programPage + 2, programPage + 8},
		{"lw r0, 0(r0)", api.FaultUnmapped, 0, programPage + 8},
		{"jalr r0, r0, 0", api.FaultUnmapped, 0, 0},
		{"jalr r0, r1, 2", api.FaultAlign, programPage + 2, programPage + 2},
		{".word 0", api.FaultIllegal, programPage + 8, programPage + 8},
	} {
		m := machineOf(t, ".org 0x1000\nli r1, 0x1000\n"+c.program)
		r := core.Reset(programPage)
		got := m.run(t, &r)
		if got.Kind != api.Faulted || got.Fault != c.fault || got.Addr != c.at || r.PC != c.pc {
			t.Errorf("%s: %v, %v", c.program, got, r)
		}
		if again := m.run(t, &r); again.Kind != api.Faulted || again.Fault != c.fault {
			t.Errorf("%s, once more: %v", c.program, again)
		}
	}
}
