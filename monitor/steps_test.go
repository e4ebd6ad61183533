package monitor_test

import (
	"slices"
	"testing"

	"cloister/api"
)

// TestResults: what is told of each kind of result, and what is done then. The
// first step of a window takes 37 ticks, one in a line that is there 2; the
// first use of another page takes 25 (the root's word is there).
func TestResults(t *testing.T) {
	obs := func(tick uint64, k api.ObsKind, place, a, b uint32) api.Obs {
		return api.Obs{Tick: tick, Cell: 1, Kind: k, PC: entry + 4*place, A: a, B: b}
	}
	last := func(tick uint64, place uint32) api.Obs { return obs(tick, api.ObsHalt, place, 0, 0) }
	for _, c := range []struct {
		name, source string
		want         []api.Obs
	}{
		{"nothing is told", "addi r1, r0, 5\nadd r2, r1, r1\nbeq r0, r0, 1\nhalt", []api.Obs{last(141, 3)}},
		{"a load", "lui r2, 2\nlw r1, 12(r2)\nhalt", []api.Obs{obs(100+37, api.ObsLoad, 1, 0x800c, 0x0f0e0d0c), last(100+37+2+25, 2)}},
		{"a byte", "lui r2, 2\nlb r1, 255(r2)\nhalt", []api.Obs{obs(137, api.ObsLoad, 1, 0x80ff, 0xffffffff), last(164, 2)}},
		{"to nowhere", "lui r2, 2\nlhu r0, 2(r2)\nhalt", []api.Obs{obs(137, api.ObsLoad, 1, 0x8002, 0x0302), last(164, 2)}},
		{"a store", "lui r2, 2\nsw r2, 0(r2)\nlw r3, 0(r2)\nhalt", []api.Obs{obs(137+2+25, api.ObsLoad, 2, 0x8000, 0x8000), last(137+2+25+3, 3)}},
		{"the clock", "nop\nclock r5\nhalt", []api.Obs{obs(137, api.ObsClock, 1, 137, 0), last(139, 2)}},
		{"a halt", "nop\nhalt\nhalt", []api.Obs{last(137, 1)}},
		{"a fault", "nop\nlw r1, 2(r0)\nhalt", []api.Obs{obs(137, api.ObsFault, 1, uint32(api.FaultAlign), 2)}},
		{"a fault of nothing", "nop\nlw r1, -8192(r0)\nhalt", []api.Obs{obs(137, api.ObsFault, 1, uint32(api.FaultUnmapped), 0xffffe000)}},
		{"a fault of a store", "nop\nsw r1, 4096(r0)\nhalt", []api.Obs{obs(137, api.ObsFault, 1, uint32(api.FaultDenied), 4096)}},
		{"a fault of a load", "nop\nlw r1, 0x6000(r0)\nhalt", []api.Obs{obs(137, api.ObsFault, 1, uint32(api.FaultDenied), 0x6000)}},
		{"no instruction", "nop\n.word 0", []api.Obs{obs(137, api.ObsFault, 1, uint32(api.FaultIllegal), entry+4)}},
		{"no interrupt under way", "nop\neret", []api.Obs{obs(137, api.ObsFault, 1, uint32(api.FaultIllegal), entry+4)}},
		{"no such place", "jalr r1, r0, 8", []api.Obs{{Tick: 137, Cell: 1, Kind: api.ObsFault, PC: 8, A: uint32(api.FaultUnmapped), B: 8}}},
		{"data", "lui r2, 2\njalr r1, r2, 8", []api.Obs{{Tick: 139, Cell: 1, Kind: api.ObsFault, PC: 0x8008, A: uint32(api.FaultDenied), B: 0x8008}}},
		{"an odd place", "jalr r1, r0, 4097", []api.Obs{{Tick: 137, Cell: 1, Kind: api.ObsFault, PC: 4097, A: uint32(api.FaultAlign), B: 4097}}},
		{"a call", "nop\nhcall 7\nhalt", []api.Obs{obs(137, api.ObsCall, 1, whoAmI, 1), last(149, 2)}},
		{"no such call", "hcall 262143\nhalt", []api.Obs{obs(100, api.ObsCall, 0, 262143, 4294967290), last(147, 1)}},
		{"call 0", "hcall 0\nhalt", []api.Obs{obs(100, api.ObsCall, 0, 0, 4294967290), last(147, 1)}},
		{"it is said", "addi r1, r0, -2\nhcall 8\nhalt", []api.Obs{obs(137, api.ObsSay, 1, 4294967294, 0), last(149, 2)}},
		{"a call that copies", "lui r2, 2\naddi r3, r0, 8\nhcall 3\nhalt", []api.Obs{obs(139, api.ObsCall, 2, send, 0), last(139+2+10+25+1, 3)}},
		{"a call of a fault", "addi r3, r0, 8\nlui r2, 3\nhcall 3\nhalt", []api.Obs{obs(139, api.ObsFault, 2, uint32(api.FaultUnmapped), 0xc000)}},
		{"a fault in a message", "lui r2, 2\naddi r2, r2, 8188\naddi r3, r0, 8\nhcall 1", []api.Obs{obs(141, api.ObsFault, 3, uint32(api.FaultUnmapped), 0xa000)}},
		{"the ticks that are left", "hcall 9\nhalt", []api.Obs{obs(100, api.ObsCall, 0, left, 6000-40-8-16-512-2*(16+6)), last(147, 1)}},
		{"a call of nobody's port", "addi r1, r0, 2\nhcall 3\nhalt", []api.Obs{obs(137, api.ObsCall, 1, send, who), last(149, 2)}},
	} {
		l := []api.Load{program(t, 1, c.source), {Cell: 1, At: data, Data: numbered(page)}}
		m := made(t, three(), l...)
		if got := run(t, m, 6000); !slices.Equal(got, c.want) {
			t.Errorf("%s: %+v, want %+v", c.name, got, c.want)
		}
		if x := cellOf(t, m, 1); !x.Halted || m.State().Waits {
			t.Errorf("%s: the cell is %+v", c.name, x)
		}
		wantNow(t, m, 6100)
	}
}

// numbered is n bytes, each one more than the one ahead.
func numbered(n int) []byte {
	b := make([]byte, n)
	for i := range b {
		b[i] = byte(i)
	}
	return b
}

// TestTheClockIsLong: its upper half is told, too.
func TestTheClockIsLong(t *testing.T) {
	g := alone(1000, api.MaxMajor)
	g.Windows[0].Start = 5<<32 - 1
	m := programmed(t, g, "clock r1\nclock r2\nhalt")
	tick := g.Windows[0].Start
	wantRun(t, m, tick+100,
		api.Obs{Tick: tick, Cell: 1, Kind: api.ObsClock, PC: entry, A: 1<<32 - 1, B: 4},
		api.Obs{Tick: tick + 37, Cell: 1, Kind: api.ObsClock, PC: entry + 4, A: 36, B: 5},
		api.Obs{Tick: tick + 39, Cell: 1, Kind: api.ObsHalt, PC: entry + 8})
}

// TestCalls: with the cell's registers, which it has then; at the tick at which
// the step began.
func TestCalls(t *testing.T) {
	m := programmed(t, three(), "addi r1, r0, 9\naddi r4, r0, 4\nhcall 7\nhalt",
		"addi r1, r0, 1\nlui r2, 2\naddi r3, r0, 4\nhcall 3\nhalt", "halt")
	run(t, m, 6100)
	want := api.Regs{PC: entry + 12}
	want.R[1], want.R[4] = 1, 4
	if c := cellOf(t, m, 1); c.Regs != want {
		t.Errorf("behind a call: %+v, want %+v", c.Regs, want)
	}
	run(t, m, 12100)
	s := m.State().Queues[1]
	if len(s.Staged) != 1 || s.Staged[0].Tick != 6100+37+2+2 {
		t.Errorf("what was sent is %+v", s)
	}
}

// TestFaultsHaltOne: the cell alone, for good; what it has staged joins, and its
// registers stay.
func TestFaultsHaltOne(t *testing.T) {
	m := programmed(t, three(), "lui r2, 2\naddi r3, r0, 4\nhcall 3\nmv r1, r0\nhcall 1\nlw r1, 0(r0)", "hcall 7\nwait\nhalt", "hcall 7\nwait\nhalt")
	var others []api.Obs
	for _, o := range run(t, m, 6100) {
		if o.Kind == api.ObsFault {
			others = append(others, o)
		}
	}
	if len(others) != 1 || others[0].Cell != 1 || others[0].PC != entry+20 {
		t.Fatalf("faults: %+v", others)
	}
	c := cellOf(t, m, 1)
	run(t, m, 6101)
	s := m.State()
	if len(s.Queues[0].Queued) != 1 || !s.Samples[0].There {
		t.Errorf("what was staged: %+v, %+v", s.Queues[0], s.Samples[0])
	}
	run(t, m, 90000)
	if cellOf(t, m, 1) != c || c.Regs.PC != entry+20 {
		t.Errorf("the cell was %+v, and is %+v", c, cellOf(t, m, 1))
	}
	for cell := 2; cell <= 3; cell++ {
		if x := cellOf(t, m, cell); !x.Halted || x.Regs.PC != entry+8 {
			t.Errorf("cell %d is %+v", cell, x)
		}
	}
}
