package monitor_test

import (
	"math"
	"testing"

	"cloister/api"
	"cloister/config"
	"cloister/monitor"
)

func wantNoNew(t *testing.T, blob []byte, want api.Errno, l ...api.Load) {
	t.Helper()
	if m, e := monitor.New(blob, l...); m != nil || e != want {
		t.Errorf("New = %d, want %d", e, want)
	}
}

// TestRefused: what Boot refuses, with its error.
func TestRefused(t *testing.T) {
	blob := blobOf(t, three())
	wantNoNew(t, nil, api.ErrConfigMagic)
	wantNoNew(t, blob[:len(blob)-1], api.ErrConfigShort)
	wantNoNew(t, append(blob[:len(blob):len(blob)], 0), api.ErrConfigBehind)
	g := three()
	g.Windows[3].Length++
	b, _ := config.Encode(g)
	wantNoNew(t, b, api.ErrValidWindow)
	g = three()
	g.Windows[0].Length = 100
	b, _ = config.Encode(g)
	wantNoNew(t, b, api.ErrValidBudget)
	wantNoNew(t, blob, api.ErrBootArg, api.Load{Cell: 4})
	wantNoNew(t, blob, api.ErrBootArg, program(t, 1, "halt"), api.Load{Cell: 1, At: entry + page - 1, Data: []byte{1, 2}})
}

// TestAtFirst: what a monitor has that is new.
func TestAtFirst(t *testing.T) {
	g := three()
	g.Cells[1].Entry = entry + 8
	l := []api.Load{program(t, 1, "halt"), {Cell: 3, At: data + 1, Data: []byte{5}}, {Cell: 3, At: data, Data: []byte{6, 7}}}
	m := made(t, g, l...)
	wantNow(t, m, 100)
	for i, c := range g.Cells {
		if got := cellOf(t, m, i+1); got != (api.CellState{Regs: api.Regs{PC: c.Entry}}) {
			t.Errorf("cell %d is %+v", i+1, got)
		}
	}
	if b := peeked(t, m, 3, data, 3); b[0] != 6 || b[1] != 7 || b[2] != 0 {
		t.Errorf("what was laid down is %v", b)
	}
	s := m.State()
	if s.Tick != 100 || s.Waits || len(s.Lines) > 0 || len(s.Slots) > 0 || len(s.Arrivals) > 0 || s.Gic.Pending != 0 || s.Gic.Masked != 0 {
		t.Error("the state at first has more than there is")
	}
	if len(s.Samples) != 2 || len(s.Queues) != 2 || len(s.Cells) != 3 {
		t.Errorf("%d sampling ports, %d queues, %d cells", len(s.Samples), len(s.Queues), len(s.Cells))
	}
}

func TestCell(t *testing.T) {
	m := programmed(t, three(), "addi r1, r0, -1\naddi r15, r0, 7\nadd r0, r1, r1\nei\nvec r1\nhalt")
	run(t, m, 1000)
	want := api.Regs{PC: entry + 20, Vector: math.MaxUint32, On: true}
	want.R[1], want.R[15] = math.MaxUint32, 7
	if got := cellOf(t, m, 1); got != (api.CellState{Regs: want, Halted: true}) {
		t.Errorf("Cell(1) = %+v", got)
	}
	if got := cellOf(t, m, 2); got != (api.CellState{Regs: api.Regs{PC: entry}}) {
		t.Errorf("Cell(2) = %+v", got)
	}
	for _, cell := range []int{0, -1, 4, 8, 9, 1 << 32, 1<<32 + 1, math.MinInt, math.MaxInt} {
		if c, e := m.Cell(cell); e != api.ErrMonitorArg || c != (api.CellState{}) {
			t.Errorf("Cell(%d) = %+v, %d", cell, c, e)
		}
	}
}

func TestStat(t *testing.T) {
	m := programmed(t, three(), "li r2, 0x8000\nhcall 3\nmv r1, r0\nhcall 3\nmv r1, r0\nhcall 3\nmv r1, r0\nhcall 3\nhalt", "addi r1, r0, 1\nli r2, 0x8000\nhcall 3\nmv r1, r0\nhcall 4\nhalt")
	wantStat := func(queue int, want api.QueueStat) {
		t.Helper()
		if s, e := m.Stat(queue); e != api.OK || s != want {
			t.Errorf("Stat(%d) at %d = %+v, %d, want %+v", queue, m.Now(), s, e, want)
		}
	}
	wantStat(0, api.QueueStat{})
	run(t, m, 6100)
	wantStat(0, api.QueueStat{Accepted: 3, Staged: 3})
	wantStat(1, api.QueueStat{})
	run(t, m, 6101)
	wantStat(0, api.QueueStat{Accepted: 3, Queued: 2, Lost: 1})
	run(t, m, 12100)
	wantStat(0, api.QueueStat{Accepted: 3, Received: 1, Queued: 1, Lost: 1})
	wantStat(1, api.QueueStat{Accepted: 1, Staged: 1})
	run(t, m, 12101)
	wantStat(1, api.QueueStat{Accepted: 1, Queued: 1})
	for _, queue := range []int{-1, 2, 3, 16, 1 << 32, math.MinInt, math.MaxInt} {
		if s, e := m.Stat(queue); e != api.ErrMonitorArg || s != (api.QueueStat{}) {
			t.Errorf("Stat(%d) = %+v, %d", queue, s, e)
		}
	}
	m = programmed(t, alone(1000, 1000), "halt")
	if s, e := m.Stat(0); e != api.ErrMonitorArg || s != (api.QueueStat{}) {
		t.Errorf("Stat(0) where there is none = %+v, %d", s, e)
	}
}
