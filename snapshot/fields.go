package snapshot

import "cloister/api"

// hand goes along a state's fields: a writer writes what stands in each, a
// reader lays into it what it has read.
type hand interface {
	byteOf(n *int)
	wordOf(n *int)
	longOf(n *int)
	word(n *uint32)
	long(n *uint64)
	perm(p *api.Perm)
	flag(yes *bool)
	bytes(b *[]byte)
	pad()
	over() bool // nothing that follows counts any more
}

// goOver hands all fields over, in the order in which they stand in a body.
func goOver(h hand, s *api.State) {
	h.long(&s.Tick)
	h.flag(&s.Waits)
	h.pad()
	h.bytes(&s.Blob)
	row(h, &s.Pages, func(p *api.Page) { page(h, p) })
	row(h, &s.Cells, func(c *api.CellState) { cell(h, c) })
	row(h, &s.Lines, func(l *api.Line) { line(h, l) })
	row(h, &s.Slots, func(l *api.Slot) { slot(h, l) })
	gic(h, &s.Gic)
	row(h, &s.Samples, func(p *api.SampleState) { sample(h, p) })
	row(h, &s.Queues, func(q *api.QueueState) { queue(h, q) })
	row(h, &s.Arrivals, func(a *api.Arrival) { arrival(h, a) })
}

func page(h hand, p *api.Page) {
	h.word(&p.Number)
	h.bytes(&p.Bytes)
}

func cell(h hand, c *api.CellState) {
	for i := range c.Regs.R {
		h.word(&c.Regs.R[i])
	}
	h.word(&c.Regs.PC)
	h.word(&c.Regs.Vector)
	h.word(&c.Regs.Back)
	h.flag(&c.Regs.On)
	h.flag(&c.Regs.Handling)
	h.flag(&c.Halted)
	h.pad()
}

func line(h hand, l *api.Line) {
	h.word(&l.Set)
	h.word(&l.Tag)
	h.flag(&l.Dirty)
	h.pad()
}

func slot(h hand, s *api.Slot) {
	h.wordOf(&s.Tag.Cell)
	h.word(&s.Tag.Page)
	h.word(&s.Mapping.Frame)
	h.perm(&s.Mapping.Perm)
	h.pad()
}

func gic(h hand, g *api.GicState) {
	for i := range g.Route {
		h.byteOf(&g.Route[i])
	}
	h.word(&g.Pending)
	h.word(&g.Masked)
}

func sample(h hand, s *api.SampleState) {
	h.flag(&s.There)
	h.flag(&s.Waits)
	h.pad()
	message(h, &s.Last)
	message(h, &s.Next)
}

func queue(h hand, q *api.QueueState) {
	h.longOf(&q.Stat.Accepted)
	h.longOf(&q.Stat.Received)
	h.longOf(&q.Stat.Queued)
	h.longOf(&q.Stat.Staged)
	h.longOf(&q.Stat.Lost)
	row(h, &q.Queued, func(m *api.Message) { message(h, m) })
	row(h, &q.Staged, func(m *api.Message) { message(h, m) })
}

func arrival(h hand, a *api.Arrival) {
	h.long(&a.Tick)
	h.byteOf(&a.Line)
	h.pad()
}

func message(h hand, m *api.Message) {
	h.long(&m.Tick)
	h.bytes(&m.Data)
}

// row hands over how many things a list has, and each of them. Where that is
// read, the list grows thing by thing: a number that was made up takes no more
// memory than the bytes behind it can fill.
func row[T any](h hand, list *[]T, do func(*T)) {
	n := len(*list)
	h.wordOf(&n)
	for i := range n {
		if h.over() {
			return
		}
		if i == len(*list) {
			*list = append(*list, *new(T))
		}
		do(&(*list)[i])
	}
}
