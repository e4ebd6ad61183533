package monitor_test

import (
	"math"
	"testing"

	"cloister/api"
	"cloister/monitor"
	"cloister/valid"
)

// wantThings wants that the next things are at these ticks, one behind the
// other.
func wantThings(t *testing.T, m *monitor.Monitor, ticks ...uint64) {
	t.Helper()
	for _, tick := range ticks {
		wantNow(t, m, tick)
		run(t, m, tick+1)
	}
}

// TestHaltedCells: of windows of cells that have halted there are ends alone.
// Where a window starts as another ends, both things are at one tick.
func TestHaltedCells(t *testing.T) {
	m := programmed(t, three(), "halt", "halt", "halt")
	wantThings(t, m, 100, 6100, 12100, 20000, 21000, 30000, 36100, 42100, 50000, 60000, 66100)
	m = programmed(t, three(), "halt", "halt", "halt")
	halted := func(tick uint64, cell int) api.Obs {
		return api.Obs{Tick: tick, Cell: cell, Kind: api.ObsHalt, PC: entry}
	}
	wantRun(t, m, 30000, halted(100, 1), halted(6100, 2), halted(21000, 3))
	wantRun(t, m, 90000)
}

// TestRunUpToATick: what is at that tick itself is not done yet.
func TestRunUpToATick(t *testing.T) {
	m := programmed(t, three(), "hcall 7\nhalt", "halt")
	wantRun(t, m, 0)
	wantRun(t, m, 99)
	wantRun(t, m, 100)
	wantNow(t, m, 100)
	wantRun(t, m, 101, api.Obs{Tick: 100, Cell: 1, Kind: api.ObsCall, PC: entry, A: whoAmI, B: 1})
	wantNow(t, m, 147)
	wantRun(t, m, 147)
	wantRun(t, m, 50)
	wantRun(t, m, 0)
	wantRun(t, m, 6100, api.Obs{Tick: 147, Cell: 1, Kind: api.ObsHalt, PC: entry + 4})
	wantNow(t, m, 6100)
	wantRun(t, m, 6100) // neither the end, nor the step behind it
	wantRun(t, m, 6101, api.Obs{Tick: 6100, Cell: 2, Kind: api.ObsHalt, PC: entry})
	wantNow(t, m, 12100)
}

// TestWaiting: no step up to the window's end, and from the next window's start
// on as ever: by the instruction, and by the hypercall.
func TestWaiting(t *testing.T) {
	m := programmed(t, three(), "wait\nhcall 10\nhalt", "halt", "halt")
	wantThings(t, m, 100)
	wantNow(t, m, 6100)
	if s := m.State(); !s.Waits {
		t.Error("the cell does not wait")
	}
	wantRun(t, m, 6101, api.Obs{Tick: 6100, Cell: 2, Kind: api.ObsHalt, PC: entry})
	if s := m.State(); s.Waits {
		t.Error("a cell waits behind the end")
	}
	wantThings(t, m, 12100)
	wantNow(t, m, 15000)
	wantRun(t, m, 15001, api.Obs{Tick: 15000, Cell: 1, Kind: api.ObsCall, PC: entry + 4, A: wait})
	wantNow(t, m, 20000)
	if s := m.State(); !s.Waits || s.Cells[0].Halted {
		t.Error("the cell does not wait, or has halted")
	}
	wantThings(t, m, 20000, 21000, 30000)
	wantNow(t, m, 30100)
	wantRun(t, m, 36101, api.Obs{Tick: 30100, Cell: 1, Kind: api.ObsHalt, PC: entry + 8})
}

// TestHaltingCall: by the hypercall there is no other observation than the
// call.
func TestHaltingCall(t *testing.T) {
	m := programmed(t, three(), "hcall 11\nhcall 7", "halt", "halt")
	wantRun(t, m, 6000, api.Obs{Tick: 100, Cell: 1, Kind: api.ObsCall, PC: entry, A: halt})
	wantNow(t, m, 6100)
	if c := cellOf(t, m, 1); !c.Halted || c.Regs.PC != entry+4 {
		t.Errorf("the cell is %+v", c)
	}
	for _, o := range run(t, m, 90000) {
		if o.Cell == 1 {
			t.Errorf("a cell that has halted: %+v", o)
		}
	}
}

// TestRoomForAStep: a step begins, if as many ticks are left ahead of the end
// less Switch as one can take; one tick less, and the end is next.
func TestRoomForAStep(t *testing.T) {
	g := alone(1000, 1000)
	room := valid.MaxStep(g, 1) + valid.Switch(g, 1)
	for _, c := range []struct {
		length uint64
		things []uint64
	}{
		{room, []uint64{0, room}},
		{room + 36, []uint64{0, room + 36}},
		{room + 37, []uint64{0, 37, room + 37}},
		{room + 38, []uint64{0, 37, room + 38}},
		{room + 39, []uint64{0, 37, 39, room + 39}},
		{room + 40, []uint64{0, 37, 39, room + 40}},
		{room + 41, []uint64{0, 37, 39, 41, room + 41}},
	} {
		for _, gap := range []uint64{0, 1, 50} { // the same in the next frame, whether that starts at once or not
			m := programmed(t, alone(c.length, c.length+gap), "j 0")
			for frame := range uint64(3) {
				var ticks []uint64
				for _, tick := range c.things {
					ticks = append(ticks, frame*(c.length+gap)+tick)
				}
				if frame > 0 && gap == 0 { // its first step was done with the end ahead of it
					ticks = ticks[1:]
				}
				wantThings(t, m, ticks...)
			}
		}
	}
}

// TestRoomIsOfTheCell: MaxStep and Switch are those of the cell whose window it
// is.
func TestRoomIsOfTheCell(t *testing.T) {
	g := three()
	g.Samples, g.Queues = g.Samples[:1], nil // cell 1 writes, so its end takes more
	for i := range g.Windows {
		w := &g.Windows[i]
		w.Length = valid.MaxStep(g, w.Cell) + valid.Switch(g, w.Cell) + 37
	}
	m := programmed(t, g)
	for k := range 8 {
		w := g.Windows[k%4]
		start := w.Start + uint64(k/4)*g.Major
		wantThings(t, m, start, start+37, start+w.Length)
	}
}

// TestOver: how far a run may go.
func TestOver(t *testing.T) {
	m := programmed(t, three(), "hcall 7\nj -1", "halt", "halt")
	before := m.State()
	for _, to := range []uint64{100 + api.MaxRun + 1, 100 + 2*api.MaxRun, api.MaxTick, api.MaxTick + 1, math.MaxUint64} {
		if l, e := m.Run(to); e != api.ErrMonitorOver || len(l) != 0 {
			t.Errorf("Run(%d) = %d observations, %d", to, len(l), e)
		}
	}
	wantState(t, m, before)
	l := run(t, m, 100+api.MaxRun)
	if len(l) < 10000 || m.Now() < 100+api.MaxRun {
		t.Errorf("%d observations, Now = %d", len(l), m.Now())
	}
	was := m.Now()
	if l, e := m.Run(api.MaxTick + 1); e != api.ErrMonitorOver || len(l) != 0 {
		t.Errorf("Run behind the end of time = %d observations, %d", len(l), e)
	}
	wantRun(t, m, 3)
	wantRun(t, m, was)
	wantNow(t, m, was)
}

// TestALongRun: of the shortest steps there are.
func TestALongRun(t *testing.T) {
	m := programmed(t, alone(api.MaxMajor, api.MaxMajor), "clock r1\nj -1")
	if l := run(t, m, api.MaxRun); len(l) < api.MaxRun/4-100 {
		t.Errorf("%d observations", len(l))
	}
}

// TestLongNothing: a window that is far away is come to at once, but not run
// to.
func TestLongNothing(t *testing.T) {
	g := alone(1000, api.MaxMajor)
	g.Windows[0].Start = 1 << 39
	m := programmed(t, g, "hcall 7\nhalt")
	wantNow(t, m, 1<<39)
	wantRun(t, m, 1<<39-1)
	wantRun(t, m, 1<<39+1, api.Obs{Tick: 1 << 39, Cell: 1, Kind: api.ObsCall, PC: entry, A: whoAmI, B: 1})
	run(t, m, 1<<39+1001)
	wantNow(t, m, api.MaxMajor+1<<39+1000)
}
