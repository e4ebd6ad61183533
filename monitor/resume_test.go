package monitor_test

import (
	"math"
	"slices"
	"testing"

	"cloister/api"
	"cloister/config"
	"cloister/monitor"
	"cloister/valid"
)

// busy is a program that uses all that a state has.
const busy = `
	li r1, 0x1044
	lui r2, 2
	addi r3, r0, 8
	vec r1
	ei
	top: addi r1, r0, 0
	hcall 3
	addi r1, r0, 1
	hcall 3
	addi r1, r0, 0
	hcall 1
	lw r4, 64(r2)
	addi r4, r4, 1
	sw r4, 64(r2)
	clock r5
	j top
	lw r6, 128(r2)
	eret`

func busyMonitor(t testing.TB) *monitor.Monitor {
	t.Helper()
	m := programmed(t, three(), busy, busy, busy)
	for i, tick := range []uint64{500, 1000, 7000, 7001, 25000, 25000, 31000} {
		script(t, m, api.Arrival{Tick: tick, Line: []int{3, 5, 0, 4, 31, 12, 3}[i]})
	}
	return m
}

// wantGoesOn wants that a monitor of a state has it, and goes on as the one
// from which it came, for two major frames.
func wantGoesOn(t *testing.T, m *monitor.Monitor) {
	t.Helper()
	s := m.State()
	n := resumed(t, s)
	wantState(t, n, s)
	for _, after := range []uint64{1, 50, 7000, 60000} {
		if a, b := run(t, m, s.Tick+after), run(t, n, s.Tick+after); !slices.Equal(a, b) {
			t.Fatalf("from %d to %d: %d observations, want %d", s.Tick, s.Tick+after, len(b), len(a))
		}
		wantState(t, n, m.State())
	}
}

// TestGoingOn: from anywhere: the midst of a window, its end, its start, between
// two.
func TestGoingOn(t *testing.T) {
	for _, tick := range []uint64{0, 100, 101, 137, 1000, 5000, 5900, 6100, 6101, 8000, 12100, 12101, 14999, 15001, 19900, 20001, 21001, 29999, 30001, 40000, 66100} {
		m := busyMonitor(t)
		run(t, m, tick)
		wantGoesOn(t, m)
	}
}

// TestGoingOnWaitingOrHalted: a cell that waits, one that has halted.
func TestGoingOnWaitingOrHalted(t *testing.T) {
	for _, tick := range []uint64{100, 101, 6100, 6101, 12101, 15001, 20001, 30101} {
		m := programmed(t, three(), "hcall 7\nwait\nj -2", "halt", "hcall 10\nlw r1, 0(r0)")
		run(t, m, tick)
		wantGoesOn(t, m)
	}
}

// states of a busy machine: in the midst of a window of cell 1; at its end, which
// is the start of cell 2's; at the start of a window, where none ends; and at
// the end of a window of cell 1 that waits.
func midst(t *testing.T) api.State {
	t.Helper()
	m := busyMonitor(t)
	run(t, m, 1500)
	s := m.State()
	if len(s.Lines) < 5 || len(s.Slots) < 2 || len(s.Queues[0].Staged) == 0 || len(s.Arrivals) < 3 || s.Gic.Pending == 0 {
		t.Fatal("in the midst there is too little")
	}
	return s
}

func atEnd(t *testing.T) api.State {
	t.Helper()
	m := busyMonitor(t)
	run(t, m, 6100)
	s := m.State()
	if s.Tick != 6100 || len(s.Slots) < 2 || len(s.Queues[0].Staged) == 0 {
		t.Fatalf("at the end (%d) there is too little", s.Tick)
	}
	return s
}

func atStart(t *testing.T) api.State {
	t.Helper()
	m := busyMonitor(t)
	run(t, m, 14000)
	s := m.State()
	if s.Tick != 15000 || len(s.Queues[0].Queued) == 0 || len(s.Queues[1].Queued) == 0 || !s.Samples[0].There {
		t.Fatalf("at the start (%d) there is too little", s.Tick)
	}
	return s
}

func atWait(t *testing.T) api.State {
	t.Helper()
	m := programmed(t, three(), "wait\nj -1")
	run(t, m, 101)
	s := m.State()
	if s.Tick != 6100 || !s.Waits {
		t.Fatalf("no cell waits at %d", s.Tick)
	}
	return s
}

type change struct {
	name string
	to   func(s *api.State)
}

// wantForm wants that a state is refused that is changed so, one change at a
// time.
func wantForm(t *testing.T, state func(*testing.T) api.State, l ...change) {
	t.Helper()
	resumed(t, state(t))
	for _, c := range l {
		s := state(t)
		c.to(&s)
		if m, e := monitor.Resume(s); m != nil || e != api.ErrMonitorForm {
			t.Errorf("%s (%d): Resume = %d", c.name, s.Tick, e)
		}
	}
}

// wantTaken wants that it is taken, and told as it was changed.
func wantTaken(t *testing.T, state func(*testing.T) api.State, l ...change) {
	t.Helper()
	for _, c := range l {
		s := state(t)
		c.to(&s)
		m, e := monitor.Resume(s)
		if m == nil || e != api.OK {
			t.Errorf("%s (%d): Resume = %d", c.name, s.Tick, e)
			continue
		}
		wantState(t, m, s)
		run(t, m, min(s.Tick+70000, api.MaxTick))
	}
}

// TestResumeOfNoBlob: Boot's errors, whatever else there is.
func TestResumeOfNoBlob(t *testing.T) {
	for _, c := range []struct {
		change func(s *api.State)
		want   api.Errno
	}{
		{func(s *api.State) { s.Blob = nil }, api.ErrConfigMagic},
		{func(s *api.State) { *s = api.State{} }, api.ErrConfigMagic},
		{func(s *api.State) { s.Blob = s.Blob[:40]; s.Tick = 3 }, api.ErrConfigShort},
		{func(s *api.State) { s.Blob[len(s.Blob)-1] ^= 1; s.Cells = nil }, api.ErrConfigSum},
		{func(s *api.State) {
			g := three()
			g.Windows[0].Length = 10
			s.Blob, _ = config.Encode(g)
		}, api.ErrValidBudget},
	} {
		s := midst(t)
		c.change(&s)
		if m, e := monitor.Resume(s); m != nil || e != c.want {
			t.Errorf("Resume = %d, want %d", e, c.want)
		}
	}
	if m, e := monitor.Resume(api.State{Blob: blobOf(t, three())}); m != nil || e != api.ErrMonitorForm {
		t.Errorf("Resume of a blob alone = %d", e)
	}
	s := midst(t)
	g := three()
	g.Cells[2].Entry += 4
	s.Blob = blobOf(t, g) // all else is as that configuration's may be, too
	resumed(t, s)
}

func TestResumeCells(t *testing.T) {
	wantForm(t, midst,
		change{"one less", func(s *api.State) { s.Cells = s.Cells[:2] }},
		change{"none", func(s *api.State) { s.Cells = nil }},
		change{"one more", func(s *api.State) { s.Cells = append(s.Cells, api.CellState{}) }},
		change{"R[0] of the first", func(s *api.State) { s.Cells[0].Regs.R[0] = 1 }},
		change{"R[0] of the last", func(s *api.State) { s.Cells[2].Regs.R[0] = 1 << 31 }},
		change{"it has halted", func(s *api.State) { s.Cells[0].Halted = true }})
	wantTaken(t, midst,
		change{"others have halted", func(s *api.State) { s.Cells[1].Halted, s.Cells[2].Halted = true, true }},
		change{"any registers", func(s *api.State) {
			s.Cells[0].Regs = api.Regs{PC: 1, Vector: 2, Back: 3, On: true, Handling: true}
			s.Cells[1].Regs = api.Regs{PC: math.MaxUint32, Vector: math.MaxUint32, Back: math.MaxUint32}
			s.Cells[1].Regs.R[15], s.Cells[2].Regs.R[1] = math.MaxUint32, math.MaxUint32
		}})
}

func TestResumePorts(t *testing.T) {
	wantForm(t, midst,
		change{"a sampling port less", func(s *api.State) { s.Samples = s.Samples[:1] }},
		change{"a sampling port more", func(s *api.State) { s.Samples = append(s.Samples, api.SampleState{}) }},
		change{"a queue less", func(s *api.State) { s.Queues = s.Queues[:1] }},
		change{"a queue more", func(s *api.State) { s.Queues = append(s.Queues, api.QueueState{}) }},
		change{"a sample that is none", func(s *api.State) { s.Samples[1].Last.Tick = 5 }},
		change{"a sample that is long", func(s *api.State) {
			s.Samples[1] = api.SampleState{There: true, Last: api.Message{Data: make([]byte, 8)}}
		}},
		change{"a queue that lost one", func(s *api.State) { s.Queues[0].Stat.Lost++ }},
		change{"a message that is none", func(s *api.State) { s.Queues[0].Staged[0].Data = make([]byte, 3) }},
		change{"staged by another one", func(s *api.State) {
			s.Queues[1] = api.QueueState{Stat: api.QueueStat{Accepted: 1, Staged: 1}, Staged: []api.Message{{Tick: 5}}}
		}})
	wantForm(t, atEnd,
		change{"staged by the one whose window starts", func(s *api.State) {
			s.Queues[1] = api.QueueState{Stat: api.QueueStat{Accepted: 1, Staged: 1}, Staged: []api.Message{{Tick: 5}}}
		}})
	wantTaken(t, midst,
		change{"samples that wait", func(s *api.State) {
			s.Samples[0] = api.SampleState{Waits: true, Next: api.Message{Tick: math.MaxUint64}}
			s.Samples[1] = api.SampleState{There: true, Waits: true, Next: api.Message{Data: []byte{1, 2, 3, 4}, Tick: 9}}
		}},
		change{"messages that are queued", func(s *api.State) {
			s.Queues[1] = api.QueueState{Stat: api.QueueStat{Accepted: 7, Received: 5, Queued: 2}, Queued: []api.Message{{Tick: math.MaxUint64}, {Data: make([]byte, 16)}}}
		}},
		change{"others are staged", func(s *api.State) {
			s.Queues[0] = api.QueueState{Stat: api.QueueStat{Accepted: 9, Lost: 7, Staged: 2}, Staged: []api.Message{{Tick: 5}, {Tick: 4}}}
		}})
}

func TestResumePages(t *testing.T) {
	if s := midst(t); s.Pages[0].Number != 2 || s.Pages[8].Number != 10 || s.Pages[9].Number != 32 {
		t.Fatal("the first nine pages are not the tables'")
	}
	nobody := api.Page{Number: 63, Bytes: make([]byte, page)}
	nobody.Bytes[4095] = 1
	wantForm(t, midst,
		change{"they do not rise", func(s *api.State) { s.Pages[10], s.Pages[9] = s.Pages[9], s.Pages[10] }},
		change{"one stands twice", func(s *api.State) { s.Pages = append(s.Pages, s.Pages[len(s.Pages)-1]) }},
		change{"behind the memory", func(s *api.State) { s.Pages = append(s.Pages, api.Page{Number: 64, Bytes: nobody.Bytes}) }},
		change{"far behind the memory", func(s *api.State) { s.Pages = append(s.Pages, api.Page{Number: 1 << 20, Bytes: nobody.Bytes}) }},
		change{"as far as can be", func(s *api.State) { s.Pages[len(s.Pages)-1].Number = math.MaxUint32 }},
		change{"too long", func(s *api.State) { s.Pages[9].Bytes = append(s.Pages[9].Bytes, 1) }},
		change{"too short", func(s *api.State) { s.Pages[9].Bytes = s.Pages[9].Bytes[:page-1] }},
		change{"without bytes", func(s *api.State) { s.Pages[9].Bytes = nil }},
		change{"all 0", func(s *api.State) { s.Pages[9].Bytes = make([]byte, page) }},
		change{"an own one is another", func(s *api.State) { s.Pages[4].Bytes[4095] ^= 1 }},
		change{"the first own one is another", func(s *api.State) { s.Pages[0].Bytes[0] ^= 2 }},
		change{"an own one is missing", func(s *api.State) { s.Pages = slices.Delete(s.Pages, 8, 9) }},
		change{"all are missing", func(s *api.State) { s.Pages = nil }},
		change{"one more own one", func(s *api.State) { s.Pages = slices.Insert(s.Pages, 9, api.Page{Number: 31, Bytes: nobody.Bytes}) }})
	wantTaken(t, midst,
		change{"those of cells are missing", func(s *api.State) { s.Pages = s.Pages[:9] }},
		change{"those of cells are others", func(s *api.State) {
			for i := 9; i < len(s.Pages); i++ {
				s.Pages[i].Bytes[i] ^= 0x55
			}
		}},
		change{"others of cells", func(s *api.State) {
			s.Pages = slices.Insert(s.Pages, 9, nobody)
			s.Pages[9].Number, s.Pages = 32, slices.Delete(s.Pages, 10, 11)
		}},
		change{"one ahead of the own ones", func(s *api.State) { s.Pages = slices.Insert(s.Pages, 0, api.Page{Number: 1, Bytes: nobody.Bytes}) }},
		change{"one of nobody", func(s *api.State) { s.Pages = append(s.Pages, nobody) }})
}

func TestResumeGic(t *testing.T) {
	wantForm(t, midst,
		change{"a route more", func(s *api.State) { s.Gic.Route[9] = 1 }},
		change{"a route less", func(s *api.State) { s.Gic.Route[3] = 0; s.Gic.Pending, s.Gic.Masked = 0, 0 }},
		change{"another route", func(s *api.State) { s.Gic.Route[3] = 2 }},
		change{"a route that is none", func(s *api.State) { s.Gic.Route[9] = 9 }},
		change{"nobody's line is pending", func(s *api.State) { s.Gic.Pending |= 1 << 9 }},
		change{"nobody's line is masked", func(s *api.State) { s.Gic.Masked |= 1 << 1 }})
	wantTaken(t, midst, change{"all lines", func(s *api.State) {
		s.Gic.Pending, s.Gic.Masked = 1<<3|1<<4|1<<31|1<<5|1, 1<<3|1<<5
	}})
}

func TestResumeLinesAndSlots(t *testing.T) {
	s := midst(t)
	twice := func(l []api.Line) []api.Line { return append(l, l[len(l)-1]) }
	wantForm(t, midst,
		change{"no such set", func(s *api.State) { s.Lines[len(s.Lines)-1].Set = 16 }},
		change{"no such tag", func(s *api.State) { s.Lines[0].Tag = math.MaxUint32 }},
		change{"a line twice", func(s *api.State) { s.Lines = twice(s.Lines) }},
		change{"sets do not rise", func(s *api.State) { slices.Reverse(s.Lines) }},
		change{"more than ways", func(s *api.State) {
			s.Lines = nil
			for i := range uint32(5) {
				s.Lines = append(s.Lines, api.Line{Tag: i})
			}
		}},
		change{"another frame", func(s *api.State) { s.Slots[0].Mapping.Frame++ }},
		change{"another permission", func(s *api.State) { s.Slots[1].Mapping.Perm = rwx }},
		change{"less permission", func(s *api.State) { s.Slots[0].Mapping.Perm = api.Read }},
		change{"another cell's", func(s *api.State) { s.Slots[0].Tag.Cell = 2 }},
		change{"nobody's", func(s *api.State) { s.Slots[0].Tag.Cell = 0 }},
		change{"no cell's", func(s *api.State) { s.Slots[0].Tag.Cell = math.MinInt }},
		change{"another page", func(s *api.State) { s.Slots[0].Tag.Page++ }},
		change{"a page that is none", func(s *api.State) { s.Slots[0].Tag.Page += 1 << 20 }},
		change{"a page that is nowhere", func(s *api.State) { s.Slots[0] = api.Slot{Tag: api.Tag{Cell: 1, Page: 5}} }},
		change{"a slot twice", func(s *api.State) { s.Slots = append(s.Slots, s.Slots[0]) }},
		change{"too many", func(s *api.State) { s.Slots = allSlots(1) }})
	wantForm(t, atEnd,
		change{"of the cell whose window starts", func(s *api.State) { s.Slots = allSlots(2)[:1] }})
	wantTaken(t, midst,
		change{"none", func(s *api.State) { s.Lines, s.Slots = nil, nil }},
		change{"in another order", func(s *api.State) { slices.Reverse(s.Slots) }},
		change{"as many as may be", func(s *api.State) { s.Slots = allSlots(1)[1:] }},
		change{"a set in another order", func(s *api.State) {
			s.Lines = []api.Line{{Tag: 7, Dirty: true}, {Tag: 1}, {Tag: 9}, {Tag: 1<<24 - 1, Dirty: true}, {Set: 15, Tag: 2}}
		}},
		change{"dirty", func(s *api.State) {
			for i := range s.Lines {
				s.Lines[i].Dirty = true
			}
		}})
	if len(s.Slots) < 2 {
		t.Errorf("%d slots", len(s.Slots))
	}
}

// allSlots is what a cell of three's tables have.
func allSlots(cell int) []api.Slot {
	var l []api.Slot
	for _, r := range three().Cells[cell-1].Ranges {
		for i := range uint32(r.Pages) {
			l = append(l, api.Slot{Tag: api.Tag{Cell: cell, Page: r.Virtual/page + i}, Mapping: api.Mapping{Frame: r.Physical/page + i, Perm: r.Perm}})
		}
	}
	return l
}

// TestResumeTick: which ticks a monitor can be at.
func TestResumeTick(t *testing.T) {
	g := three()
	last := 6100 - valid.Switch(g, 1) - valid.MaxStep(g, 1)
	at := func(tick uint64) change {
		return change{"at a tick", func(s *api.State) { s.Tick = tick }}
	}
	wantForm(t, midst, at(0), at(99), at(100), at(last+1), at(6099), at(6101), at(8000), at(12100), at(12101), at(14999), at(15000), at(20001), at(21000), at(25000), at(30000), at(30050), at(30100),
		at(api.MaxTick), at(api.MaxTick-1), at(api.MaxTick+1), at(math.MaxUint64), at(1<<63+6100))
	wantTaken(t, midst, at(101), at(last), at(6100), at(15001), at(20000), at(30101), at(30000+last), at(30000*100000+last), at(30000*100000+6100))
	none := func(tick uint64) change {
		return change{"at a tick, with nothing", func(s *api.State) {
			s.Tick, s.Lines, s.Slots, s.Waits = tick, nil, nil, false
			s.Queues[0].Stat.Accepted, s.Queues[0].Stat.Staged, s.Queues[0].Staged = s.Queues[0].Stat.Accepted-len(s.Queues[0].Staged), 0, nil
		}}
	}
	wantForm(t, midst, none(0), none(99), none(last+1), none(6099), none(12000), none(12101), none(20001), none(29999), none(30001), none(api.MaxTick+1))
	wantTaken(t, midst, none(100), none(101), none(6100), none(6101), none(12100), none(15000), none(21000), none(21001), none(30000), none(30100), none(api.MaxTick-1), none(api.MaxTick))
}

// TestResumeHaltedTick: in a window of a cell that has halted, or waits, there
// is its end alone.
func TestResumeHaltedTick(t *testing.T) {
	halted := func(tick uint64, cells ...int) change {
		return change{"of cells that have halted", func(s *api.State) {
			s.Tick = tick
			for _, c := range cells {
				s.Cells[c-1].Halted = true
			}
		}}
	}
	waits := func(tick uint64) change {
		return change{"of a cell that waits", func(s *api.State) { s.Tick, s.Waits = tick, true }}
	}
	wantForm(t, atStart, halted(15000, 1), halted(15001, 1), halted(21000, 3), waits(15000), waits(15001), waits(21000))
	wantTaken(t, atStart, halted(15000, 2, 3), halted(20000, 1), halted(21000, 1, 2), halted(6100, 1), halted(6100, 2), halted(30000, 1, 2, 3), waits(20000), waits(6100), waits(30000), waits(api.MaxTick))
	wantForm(t, atWait, change{"it has halted, too", func(s *api.State) { s.Cells[0].Halted = true }})
	wantTaken(t, atWait,
		change{"others have halted", func(s *api.State) { s.Cells[1].Halted, s.Cells[2].Halted = true, true }},
		change{"it does not wait", func(s *api.State) { s.Waits = false }})
}

// TestResumeAtAStart: where nothing has happened yet in a window, nothing is
// there that an end takes away.
func TestResumeAtAStart(t *testing.T) {
	line := change{"a line", func(s *api.State) { s.Lines = []api.Line{{}} }}
	slot := change{"a slot", func(s *api.State) { s.Slots = allSlots(1)[:1] }}
	staged := change{"a message", func(s *api.State) {
		q := &s.Queues[0]
		q.Staged = []api.Message{{}}
		q.Stat.Staged++
		q.Stat.Accepted++
	}}
	waits := change{"a sample that waits", func(s *api.State) { s.Samples[1].Waits = true; s.Samples[0].Waits = true }}
	wantForm(t, atStart, line, slot, staged)
	wantTaken(t, atStart, waits)
	later := func(c change) change {
		return change{c.name + " later", func(s *api.State) { s.Tick++; c.to(s) }}
	}
	wantTaken(t, atStart, later(line), later(slot), later(staged))
}

func TestResumeArrivals(t *testing.T) {
	arrivals := func(l ...api.Arrival) change {
		return change{"arrivals", func(s *api.State) { s.Arrivals = l }}
	}
	wantForm(t, midst,
		arrivals(api.Arrival{Line: -1}), arrivals(api.Arrival{Line: 32}), arrivals(api.Arrival{Line: math.MaxInt}),
		arrivals(api.Arrival{Tick: api.MaxTick + 1}), arrivals(api.Arrival{Tick: math.MaxUint64}),
		arrivals(api.Arrival{Tick: 9}, api.Arrival{Tick: 8}),
		arrivals(api.Arrival{Tick: 9, Line: 1}, api.Arrival{Tick: 9}),
		arrivals(api.Arrival{Tick: 9}, api.Arrival{Tick: 9}, api.Arrival{Tick: 8, Line: 3}))
	wantTaken(t, midst,
		arrivals(), arrivals(api.Arrival{}), arrivals(api.Arrival{Tick: 1, Line: 31}, api.Arrival{Tick: 1, Line: 31}),
		arrivals(api.Arrival{Tick: 5000, Line: 3}, api.Arrival{Tick: 5000, Line: 4}, api.Arrival{Tick: 5001, Line: 3}, api.Arrival{Tick: api.MaxTick, Line: 31}))
}

// TestResumeIsAtTheEnd: where a window starts as another ends, that one's end is
// still to come.
func TestResumeIsAtTheEnd(t *testing.T) {
	m := resumed(t, atEnd(t))
	run(t, m, 6101)
	s := m.State()
	if len(s.Queues[0].Staged) != 0 || len(s.Queues[0].Queued) == 0 || !s.Samples[0].There || s.Samples[0].Waits {
		t.Errorf("behind the end: %+v, %+v", s.Queues[0], s.Samples[0])
	}
	for _, x := range s.Slots {
		if x.Tag.Cell != 2 {
			t.Errorf("behind the end there is %+v", x)
		}
	}
	wantNow(t, m, 6100+37)
}
