package monitor

import (
	"cloister/api"
	"cloister/core"
	"cloister/hyper"
)

// step is one that is under way, of the cell whose window it is.
type step struct {
	monitor *Monitor
	cell    *api.CellState
	pc      uint32 // as it was ahead of the step
	result  api.Result
	ticks   int
	told    chan<- api.Obs
}

// step does the next one, and tells what was observed.
func (m *Monitor) step(told chan<- api.Obs) {
	m.latch()
	s := &step{monitor: m, cell: m.cell(m.window.cell), told: told}
	s.pc = s.cell.Regs.PC
	s.result = core.Step(&s.cell.Regs, bus{m.machine, m.window.cell, m.now})
	s.ticks = s.result.Cycles
	outcomeOf(s.result.Kind)(s)
	m.goOn(m.now + uint64(s.ticks))
}

// latch raises the lines of all interrupts that have come by now.
func (m *Monitor) latch() {
	for _, line := range m.arrivals.until(m.now) {
		m.machine.Gic.Raise(line)
	}
}

// outcomeOf is what comes of a result of a kind.
func outcomeOf(k api.ResultKind) func(*step) {
	outcomes := [...]func(*step){
		api.Stepped: (*step).stepped,
		api.Trapped: (*step).trapped,
		api.Faulted: (*step).faulted,
		api.Halted:  (*step).halted,
		api.Waiting: (*step).waits,
		api.Taken:   (*step).taken,
	}
	return outcomes[k]
}

func (s *step) stepped() {
	if s.result.Loaded {
		s.tell(api.ObsLoad, s.result.Addr, s.result.Value)
	}
	if s.result.Read {
		s.tell(api.ObsClock, uint32(s.result.Clock), uint32(s.result.Clock>>32))
	}
}

func (s *step) trapped() {
	m := s.monitor
	a := hyper.Call(m.machine, m.window.cell, m.now, s.result.Number, &s.cell.Regs)
	s.ticks += a.Cycles
	switch {
	case a.Fault != api.FaultNone:
		s.refused(a.Fault, a.Addr)
		return
	case a.Said:
		s.tell(api.ObsSay, a.Value, 0)
	default:
		s.tell(api.ObsCall, s.result.Number, a.Value)
	}
	m.waits = a.Waits
	s.cell.Halted = a.Halts
}

func (s *step) faulted() { s.refused(s.result.Fault, s.result.Addr) }

func (s *step) halted() {
	s.tell(api.ObsHalt, 0, 0)
	s.cell.Halted = true
}

func (s *step) waits() { s.monitor.waits = true }

func (s *step) taken() { s.tell(api.ObsIrq, uint32(s.result.Line), 0) }

// refused halts the cell for good, and nobody else.
func (s *step) refused(f api.Fault, at uint32) {
	s.tell(api.ObsFault, uint32(f), at)
	s.cell.Halted = true
}

func (s *step) tell(k api.ObsKind, a, b uint32) {
	m := s.monitor
	s.told <- api.Obs{Tick: m.now, Cell: m.window.cell, Kind: k, PC: s.pc, A: a, B: b}
}
