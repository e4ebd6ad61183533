package config

import "cloister/api"

// hand goes along a configuration's fields: a writer writes what stands in
// each, a reader lays into it what it has read.
type hand interface {
	byteOf(n *int)
	halfOf(n *int)
	wordOf(n *int)
	word(n *uint32)
	long(n *uint64)
	perm(p *api.Perm)
	flag(yes *bool)
	name(s *string)
	pad()
}

// goOver hands all fields over, in the order in which they stand in a body.
func goOver(h hand, g *api.Config) {
	machine(h, g)
	count(h, &g.Cells)
	count(h, &g.Windows)
	count(h, &g.Samples)
	count(h, &g.Queues)
	each(g.Cells, func(c *api.Cell) { cell(h, c) })
	each(g.Windows, func(w *api.Window) { window(h, w) })
	each(g.Samples, func(s *api.Sample) { sample(h, s) })
	each(g.Queues, func(q *api.Queue) { queue(h, q) })
}

func machine(h hand, g *api.Config) {
	h.wordOf(&g.Pages)
	h.word(&g.OwnBase)
	h.wordOf(&g.OwnPages)
	h.halfOf(&g.Shape.Sets)
	h.halfOf(&g.Shape.Ways)
	h.halfOf(&g.Shape.Line)
	h.halfOf(&g.Slots)
	h.long(&g.Major)
}

func cell(h hand, c *api.Cell) {
	h.name(&c.Name)
	h.pad()
	h.word(&c.Entry)
	count(h, &c.Ranges)
	count(h, &c.Lines)
	h.pad()
	each(c.Ranges, func(r *api.Range) { pages(h, r) })
	each(c.Lines, h.byteOf)
	h.pad()
}

func pages(h hand, r *api.Range) {
	h.word(&r.Virtual)
	h.word(&r.Physical)
	h.wordOf(&r.Pages)
	h.perm(&r.Perm)
	h.pad()
}

func window(h hand, w *api.Window) {
	h.byteOf(&w.Cell)
	h.pad()
	h.long(&w.Start)
	h.long(&w.Length)
}

func sample(h hand, s *api.Sample) {
	h.byteOf(&s.Writer)
	count(h, &s.Readers)
	h.halfOf(&s.Size)
	each(s.Readers, h.byteOf)
	h.pad()
}

func queue(h hand, q *api.Queue) {
	h.byteOf(&q.Writer)
	h.byteOf(&q.Reader)
	h.halfOf(&q.Size)
	h.halfOf(&q.Depth)
	h.halfOf(&q.Quota)
	h.flag(&q.Flow)
	h.pad()
}

// count hands over how many things a list has. It is another number only
// where it was read: there the list is still to be made.
func count[T any](h hand, list *[]T) {
	n := len(*list)
	h.byteOf(&n)
	if n != len(*list) {
		*list = make([]T, n)
	}
}

// each does something with each thing of a list, where it stands.
func each[T any](list []T, do func(*T)) {
	for i := range list {
		do(&list[i])
	}
}
