package boot

import (
	"cloister/api"
	"cloister/arena"
	"cloister/cache"
	"cloister/gic"
	"cloister/hours"
	"cloister/memory"
	"cloister/mmu"
	"cloister/queuing"
	"cloister/sampling"
	"cloister/tables"
	"cloister/tlb"
)

// build makes a machine in which nothing was laid down but tables. (The
// configuration was read for it alone, and nothing that is made of it keeps
// any of its lists.)
func build(g api.Config) *Machine {
	m := sure(memory.New(g.Pages))
	u := sure(mmu.New(m, sure(cache.New(g.Shape)), sure(tlb.New(g.Slots))))
	b := builder{own: sure(arena.New(m, g.OwnBase, g.OwnPages)), mmu: u, gic: gic.New()}
	return &Machine{
		Config:  g,
		Memory:  m,
		MMU:     u,
		Gic:     b.gic,
		Hours:   sure(hours.New(g.Major, g.Windows...)),
		Samples: each(g.Samples, sampling.New),
		Queues:  each(g.Queues, queuing.New),
		Roots:   b.cells(g.Cells),
	}
}

// builder is what is made of the cells, one behind the other.
type builder struct {
	own    *arena.Arena
	mmu    *mmu.MMU
	gic    *gic.Gic
	number int // of the cell that is made, or was made last
}

// cells makes all of them, in their order; then no page is given out any more.
func (b *builder) cells(l []api.Cell) []uint32 {
	roots := each(l, b.cell)
	b.own.Seal()
	return roots
}

// cell makes a cell's tables, and tells it to the MMU and the controller: its
// root.
func (b *builder) cell(c api.Cell) (uint32, api.Errno) {
	b.number++
	each(c.Lines, b.line)
	s := sure(tables.New(b.own))
	root := sure(s.Root(), s.Map(c.Ranges...))
	return root, b.mmu.Root(b.number, root)
}

// line has a line go to the cell that is made.
func (b *builder) line(line int) (int, api.Errno) { return line, b.gic.Route(line, b.number) }
