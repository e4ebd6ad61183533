package audit

import (
	"slices"

	"cloister/api"
	"cloister/hours"
)

// auditor hears observations, one behind the other, as long as none is wrong.
type auditor struct {
	config api.Config
	hours  *hours.Hours
	end    uint64 // the first tick at which no step begins any more
	next   uint64 // the first one at which the next observation may be
	cells  []cell // the cell c at the place c - 1
}

// auditorOf is one of a configuration that may be, which so has a time table.
func auditorOf(g api.Config, to uint64) *auditor {
	table, _ := hours.New(g.Major, g.Windows...)
	a := &auditor{config: g, hours: table, end: min(to, api.MaxTick+1)}
	for i := range g.Cells {
		a.cells = append(a.cells, cellOf(g, i+1))
	}
	return a
}

// hear asks what may be wrong with the next observation, in the order in which
// it is told. Each question leans on the answers ahead of it.
func (a *auditor) hear(o api.Obs) api.Errno {
	switch {
	case o.Tick < a.next:
		return api.ErrAuditOrder
	case !isCell(a.config, o.Cell) || a.teller(o).halted || !isFormed(o):
		return api.ErrAuditCell
	case !a.inHours(o):
		return api.ErrAuditWindow
	case o.Kind == api.ObsIrq && !slices.Contains(a.teller(o).lines, int(o.A)):
		return api.ErrAuditLine
	case isReceived(o) && !a.wasSent(o):
		return api.ErrAuditPort
	}
	a.next = o.Tick + 1
	a.teller(o).note(o)
	return api.OK
}

// teller is the cell that observed something.
func (a *auditor) teller(o api.Obs) *cell { return &a.cells[o.Cell-1] }

// inHours: may a step of that cell begin at that tick?
func (a *auditor) inHours(o api.Obs) bool {
	k, in := a.hours.At(o.Tick)
	if o.Tick >= a.end || !in || a.hours.Owner(k) != o.Cell {
		return false
	}
	left := a.hours.Start(k) + a.hours.Length(k) - o.Tick
	return left >= a.teller(o).room
}

// wasSent: may the message have been sent that a cell received? Those who
// write to it are other cells than it: so all that they have sent by now, they
// sent ahead of the start of this window.
func (a *auditor) wasSent(o api.Obs) bool {
	c, sent := a.teller(o), 0
	for _, w := range c.writers {
		sent += a.cells[w-1].sent
	}
	return int(o.B) <= c.longest && c.received < sent
}
