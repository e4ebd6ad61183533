package monitor

import (
	"bytes"
	"cmp"
	"slices"

	"cloister/api"
	"cloister/queuing"
	"cloister/sampling"
	"cloister/tables"
	"cloister/tlb"
)

// take has a monitor that is new be as a state says; false: the state may not
// be. (What was taken of it till then does not matter: that monitor is given
// up.) What follows asks whose window it is, so cells and time come first.
func (m *Monitor) take(s api.State) bool {
	parts := [...]func(*Monitor, api.State) bool{
		(*Monitor).takeCells,
		(*Monitor).takeTime,
		(*Monitor).takePorts,
		(*Monitor).takePages,
		(*Monitor).takeGic,
		(*Monitor).takeLines,
		(*Monitor).takeSlots,
		(*Monitor).takeArrivals,
	}
	for _, part := range parts {
		if !part(m, s) {
			return false
		}
	}
	return !m.begins() || isFresh(s)
}

func (m *Monitor) takeCells(s api.State) bool {
	if len(s.Cells) != len(m.cells) {
		return false
	}
	m.cells = slices.Clone(s.Cells)
	return !slices.ContainsFunc(m.cells, func(c api.CellState) bool { return c.Regs.R[0] != 0 })
}

func (m *Monitor) takeTime(s api.State) bool {
	if s.Tick > api.MaxTick {
		return false
	}
	m.now, m.waits = s.Tick, s.Waits
	m.window = m.windowOf(m.whose())
	if m.waits && m.cell(m.window.cell).Halted {
		return false
	}
	_, in := m.machine.Hours.At(m.now)
	return m.now == api.MaxTick || m.now == m.window.end || in && m.mayStep(m.now)
}

// whose is the window whose cell's it is now. One in which the tick ahead is
// goes on, or ends now: that comes ahead of one that starts.
func (m *Monitor) whose() uint64 {
	h := m.machine.Hours
	if m.now > 0 {
		if k, in := h.At(m.now - 1); in {
			return k
		}
	}
	k, _ := h.At(m.now)
	return k
}

// begins tells whether nothing has happened yet in the window.
func (m *Monitor) begins() bool {
	h := m.machine.Hours
	k, in := h.At(m.now)
	return in && h.Start(k) == m.now && m.now != m.window.end && m.now != api.MaxTick
}

// isFresh tells whether a state has nothing that is gone at a window's end.
func isFresh(s api.State) bool {
	staged := func(q api.QueueState) bool { return len(q.Staged) > 0 }
	return len(s.Lines) == 0 && len(s.Slots) == 0 && !slices.ContainsFunc(s.Queues, staged)
}

func (m *Monitor) takePorts(s api.State) bool {
	if !takeEach(m.machine.Samples, s.Samples, (*sampling.Port).Load) || !takeEach(m.machine.Queues, s.Queues, (*queuing.Port).Load) {
		return false
	}
	for i, q := range m.machine.Config.Queues {
		if q.Writer != m.window.cell && len(s.Queues[i].Staged) > 0 {
			return false
		}
	}
	return true
}

// takeEach has each port take its state; false: one does not, or there are not
// as many.
func takeEach[P, S any](ports []P, states []S, load func(P, S) api.Errno) bool {
	if len(ports) != len(states) {
		return false
	}
	for i, p := range ports {
		if load(p, states[i]) != api.OK {
			return false
		}
	}
	return true
}

// takePages finds in memory the monitor's own pages alone, as they were booted:
// nothing was laid into cells.
func (m *Monitor) takePages(s api.State) bool {
	if !m.areTold(s.Pages) || !slices.EqualFunc(pagesOf(m.machine.Memory), m.own(s.Pages), samePage) {
		return false
	}
	for _, p := range s.Pages {
		m.machine.Memory.Write(p.Number*api.PageSize, p.Bytes)
	}
	return true
}

// areTold tells whether pages are as a memory tells them.
func (m *Monitor) areTold(l []api.Page) bool {
	for i, p := range l {
		if i > 0 && p.Number <= l[i-1].Number || p.Number >= uint32(m.machine.Memory.Pages()) {
			return false
		}
		if len(p.Bytes) != api.PageSize || [api.PageSize]byte(p.Bytes) == [api.PageSize]byte{} {
			return false
		}
	}
	return true
}

// own is those of the monitor's own memory.
func (m *Monitor) own(l []api.Page) []api.Page {
	g := m.machine.Config
	first := g.OwnBase / api.PageSize
	return slices.DeleteFunc(slices.Clone(l), func(p api.Page) bool {
		return p.Number < first || p.Number-first >= uint32(g.OwnPages)
	})
}

func samePage(a, b api.Page) bool { return a.Number == b.Number && bytes.Equal(a.Bytes, b.Bytes) }

func (m *Monitor) takeGic(s api.State) bool {
	return s.Gic.Route == m.machine.Gic.State().Route && m.machine.Gic.Load(s.Gic) == api.OK
}

func (m *Monitor) takeLines(s api.State) bool {
	bySet := func(a, b api.Line) int { return cmp.Compare(a.Set, b.Set) }
	return slices.IsSortedFunc(s.Lines, bySet) && m.cache.Load(s.Lines...) == api.OK
}

// takeSlots has another TLB say whether there may be such slots: what is put
// into the monitor's own pushes out what has no room.
func (m *Monitor) takeSlots(s api.State) bool {
	if _, e := tlb.Load(m.machine.Config.Slots, s.Slots...); e != api.OK {
		return false
	}
	pages := m.mapped(m.window.cell)
	for _, x := range slices.Backward(s.Slots) { // what is put last was used last
		page, there := pages[x.Tag.Page]
		if !there || page != x.Mapping || x.Tag.Cell != m.window.cell {
			return false
		}
		m.tlb.Put(x.Tag, x.Mapping)
	}
	return true
}

// mapped is what a cell's tables have, by the numbers of its pages.
func (m *Monitor) mapped(cell int) map[uint32]api.Mapping {
	pages := map[uint32]api.Mapping{}
	for virtual, page := range tables.All(m.machine.Memory, m.root(cell)) {
		pages[virtual/api.PageSize] = api.Mapping{Frame: page.Frame, Perm: page.Perm}
	}
	return pages
}

func (m *Monitor) takeArrivals(s api.State) bool {
	for _, a := range s.Arrivals {
		if !mayArrive(a) {
			return false
		}
	}
	m.arrivals.add(s.Arrivals)
	return slices.IsSortedFunc(s.Arrivals, inOrder)
}
