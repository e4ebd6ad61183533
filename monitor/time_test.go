package monitor_test

import (
	"slices"
	"testing"

	"cloister/api"
	"cloister/monitor"
	"cloister/valid"
)

// lastWindow is a configuration of two cells, with a window of each in each
// frame: of the last ones that start at MaxTick or ahead of it cell 1's starts
// `ahead` ticks ahead of MaxTick, and has that length; cell 2's follows it.
func lastWindow(ahead, length uint64) api.Config {
	g := three()
	g.Cells, g.Samples, g.Queues = g.Cells[:2], g.Samples[:1], g.Queues[:1]
	g.Samples[0].Readers = []int{2}
	g.Major = 100000
	start := api.MaxTick%g.Major - ahead
	g.Windows = []api.Window{{Cell: 1, Start: start, Length: length}, {Cell: 2, Start: start + length, Length: 3000}}
	return g
}

// late is a machine whose next thing is a step at the start of that window of
// cell 1.
func late(t *testing.T, g api.Config, ahead uint64, sources ...string) *monitor.Monitor {
	t.Helper()
	s := programmed(t, g, sources...).State()
	s.Tick = api.MaxTick - ahead
	return resumed(t, s)
}

// wantEnd wants that time has ended: nothing happens any more, and a state is
// told from which one that is the same is made.
func wantEnd(t *testing.T, m *monitor.Monitor) {
	t.Helper()
	wantNow(t, m, api.MaxTick)
	s := m.State()
	wantRun(t, m, api.MaxTick)
	wantRun(t, m, 5)
	if l, e := m.Run(api.MaxTick + 1); e != api.ErrMonitorOver || len(l) != 0 {
		t.Errorf("Run behind the end of time = %+v, %d", l, e)
	}
	wantState(t, m, s)
	n := resumed(t, s)
	wantState(t, n, s)
	wantRun(t, n, api.MaxTick)
	wantState(t, n, s)
	if e := m.Script(api.Arrival{Tick: api.MaxTick - 1}); e != api.ErrMonitorPast {
		t.Errorf("Script ahead of the end of time = %d", e)
	}
	script(t, m, api.Arrival{Tick: api.MaxTick, Line: 31})
}

const sender = "lui r2, 2\naddi r3, r0, 4\nhcall 3\nmv r1, r0\nhcall 1\nj 0"

// TestStepsToTheEndOfTime: a window that goes on behind it. A step begins ahead
// of it, and the next thing would be behind it.
func TestStepsToTheEndOfTime(t *testing.T) {
	for ahead := uint64(500); ahead < 540; ahead++ {
		g := lastWindow(ahead, 5000)
		m := late(t, g, ahead, "clock r1\nj -1")
		var last uint64
		for _, o := range run(t, m, api.MaxTick) {
			if o.Kind != api.ObsClock || o.Tick >= api.MaxTick || uint64(o.A)|uint64(o.B)<<32 != o.Tick {
				t.Fatalf("an observation: %+v", o)
			}
			last = o.Tick
		}
		if last < api.MaxTick-20 {
			t.Errorf("the last clock was read %d ahead of the end", api.MaxTick-last)
		}
		wantEnd(t, m)
		if s := m.State(); len(s.Slots) != 1 || s.Slots[0].Tag.Cell != 1 {
			t.Errorf("Slots = %+v", s.Slots)
		}
	}
}

// TestEndsAtTheEndOfTime: a window's end at MaxTick, or behind it, does not
// happen; one ahead of it does.
func TestEndsAtTheEndOfTime(t *testing.T) {
	g := lastWindow(5000, 4000)
	room := valid.MaxStep(g, 1) + valid.Switch(g, 1)
	for _, c := range []struct {
		ahead, length uint64
		ends          bool
	}{
		{3000, 3000, false}, {3000, 3001, false}, {3000, 4000, false}, {3001, 3000, true}, {3002, 3000, true},
		{room, room, false}, {room, room + 1, false}, {room + 1, room, true},
	} {
		m := late(t, lastWindow(c.ahead, c.length), c.ahead, sender, "halt")
		l := run(t, m, api.MaxTick)
		if c.length == 3000 && len(l) < 2 {
			t.Fatalf("observations: %+v", l)
		}
		wantEnd(t, m)
		s := m.State()
		ofFirst := func(x api.Slot) bool { return x.Tag.Cell == 1 } // behind the end cell 2 has a step
		if c.ends == slices.ContainsFunc(s.Slots, ofFirst) {
			t.Errorf("%+v: Slots = %+v", c, s.Slots)
		}
		if c.length >= 3000 && (c.ends != (len(s.Queues[0].Queued) == 1) || c.ends != s.Samples[0].There || c.ends == s.Samples[0].Waits) {
			t.Errorf("%+v: %+v, %+v", c, s.Queues[0], s.Samples[0])
		}
	}
}

// TestStartAtTheEndOfTime: a window that starts one tick ahead of it has a step;
// one that starts at it has none.
func TestStartAtTheEndOfTime(t *testing.T) {
	for _, c := range []struct {
		ahead, length uint64
		seen          int
	}{{3001, 3000, 1}, {3000, 3000, 0}, {3002, 3001, 1}, {3010, 3000, 1}, {2999, 3000, 0}} {
		m := late(t, lastWindow(c.ahead, c.length), c.ahead, "halt", "hcall 7\nhalt")
		l := run(t, m, api.MaxTick)
		if len(l) != 1+c.seen {
			t.Errorf("%+v: %+v", c, l)
		}
		wantEnd(t, m)
	}
	m := late(t, lastWindow(1, 3000), 1, "hcall 7\nhalt")
	wantRun(t, m, api.MaxTick, api.Obs{Tick: api.MaxTick - 1, Cell: 1, Kind: api.ObsCall, PC: entry, A: whoAmI, B: 1})
	wantEnd(t, m)
	g := lastWindow(10, 3000)
	g.Windows[0].Start += 11
	g.Windows[1].Start += 11 // nothing is left
	s := programmed(t, g, "halt", "halt").State()
	s.Tick = api.MaxTick
	wantEnd(t, resumed(t, s))
}

// TestResumeAtTheEndOfTime: a state of a window that starts there may have what
// one has that has gone on: nothing else is asked of it.
func TestResumeAtTheEndOfTime(t *testing.T) {
	starts := func(t *testing.T) api.State {
		s := programmed(t, lastWindow(0, 3000)).State()
		s.Tick = api.MaxTick
		return s
	}
	wantTaken(t, starts,
		change{"lines", func(s *api.State) { s.Lines = []api.Line{{Tag: 5}} }},
		change{"slots", func(s *api.State) { s.Slots = allSlots(1)[:2] }},
		change{"a message", func(s *api.State) {
			s.Queues[0] = api.QueueState{Stat: api.QueueStat{Accepted: 1, Staged: 1}, Staged: []api.Message{{Tick: 5}}}
		}},
		change{"it waits", func(s *api.State) { s.Waits = true }},
		change{"it has halted", func(s *api.State) { s.Cells[0].Halted = true }})
	wantForm(t, starts,
		change{"slots of another one", func(s *api.State) { s.Slots = allSlots(2)[:2] }},
		change{"it has halted, and waits", func(s *api.State) { s.Cells[0].Halted, s.Waits = true, true }})
	ends := func(t *testing.T) api.State {
		s := programmed(t, lastWindow(3000, 3000)).State()
		s.Tick = api.MaxTick
		return s
	}
	wantTaken(t, ends, change{"slots", func(s *api.State) { s.Slots = allSlots(1)[:2] }})
	wantForm(t, ends, change{"slots of the one whose window starts", func(s *api.State) { s.Slots = allSlots(2)[:2] }})
}

// TestHaltedAtTheEndOfTime: who has halted, or waits, has the end alone ahead.
func TestHaltedAtTheEndOfTime(t *testing.T) {
	for _, source := range []string{"halt", "wait", "hcall 10", "hcall 11"} {
		m := late(t, lastWindow(2000, 4000), 2000, source)
		run(t, m, api.MaxTick-1999)
		wantEnd(t, m)
		if s := m.State(); s.Waits == s.Cells[0].Halted {
			t.Errorf("%s: Waits = %v, Halted = %v", source, s.Waits, s.Cells[0].Halted)
		}
	}
}

// TestRunsNearTheEndOfTime: as far as they may go.
func TestRunsNearTheEndOfTime(t *testing.T) {
	m := late(t, lastWindow(3000, 3000), 3000, "j 0", "j 0")
	s := m.State()
	s.Tick -= 100 * 100000
	m = resumed(t, s)
	if l, e := m.Run(api.MaxTick); e != api.ErrMonitorOver || len(l) != 0 {
		t.Errorf("Run(MaxTick) from %d = %d observations, %d", s.Tick, len(l), e)
	}
	wantState(t, m, s)
	for m.Now() < api.MaxTick {
		was := m.Now()
		run(t, m, min(was+api.MaxRun, api.MaxTick))
		if m.Now() <= was {
			t.Fatalf("Now was %d, and is %d", was, m.Now())
		}
	}
	wantEnd(t, m)
}
