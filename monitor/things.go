package monitor

import (
	"cloister/api"
	"cloister/valid"
)

// window is one of a cell: there are steps in it, and then its end.
type window struct {
	cell int
	last uint64 // at the latest a step begins here
	end  uint64
}

// windowOf is the window of a number. (A valid one has room for a step: last is
// its start, at least.)
func (m *Monitor) windowOf(k uint64) window {
	h, g := m.machine.Hours, m.machine.Config
	cell, end := h.Owner(k), h.Start(k)+h.Length(k)
	return window{cell, end - valid.Switch(g, cell) - valid.MaxStep(g, cell), end}
}

// enter looks for the next thing from a tick on: in the window that it is in,
// or else from the start of the next one on.
func (m *Monitor) enter(tick uint64) {
	h := m.machine.Hours
	k, in := h.At(tick)
	if !in {
		k = h.Next(tick)
		tick = h.Start(k)
	}
	m.window = m.windowOf(k)
	m.goOn(tick)
}

// goOn looks for the next thing from a tick on that is in the window. What
// would be behind the end of time is never come to: no run goes on that far.
func (m *Monitor) goOn(tick uint64) {
	if !m.mayStep(tick) {
		tick = m.window.end
	}
	m.now = min(tick, api.MaxTick)
}

// mayStep tells whether the cell whose window it is may begin a step at a tick.
func (m *Monitor) mayStep(tick uint64) bool {
	return !m.cell(m.window.cell).Halted && !m.waits && tick <= m.window.last
}

// runTo has things happen up to a tick. Steps begin ahead of their window's
// end: so the next thing is this end just if it is at that tick.
func (m *Monitor) runTo(to uint64, told chan<- api.Obs) {
	for m.now < to {
		if m.now < m.window.end {
			m.step(told)
		} else {
			m.endWindow()
		}
	}
}

// endWindow takes no ticks: from that tick on the next thing is looked for.
func (m *Monitor) endWindow() {
	for _, p := range m.machine.Samples {
		p.Turn(m.window.cell)
	}
	for _, p := range m.machine.Queues {
		p.Turn(m.window.cell)
	}
	m.machine.MMU.Flush()
	m.waits = false
	m.enter(m.now)
}
