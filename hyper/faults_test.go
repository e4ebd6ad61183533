package hyper_test

import (
	"testing"

	"cloister/api"
	"cloister/boot"
	"cloister/hyper"
)

// TestFaultsOfLoads: the first word that is refused ends the call, with its
// address and all cycles till then; nothing waits, or is staged, by it.
func TestFaultsOfLoads(t *testing.T) {
	for _, x := range []struct {
		at, n  uint32
		fault  api.Fault
		addr   uint32
		cycles int
	}{
		{0x4000, 8, api.FaultUnmapped, 0x4000, 12 + 12},         // two entries
		{0x6000, 8, api.FaultDenied, 0x6000, 12 + 12},           // it may be fetched alone
		{0x400000, 8, api.FaultUnmapped, 0x400000, 12},          // the root's entry
		{0x80000000, 4, api.FaultUnmapped, 0x80000000, 12},      // likewise
		{0x9ffc, 8, api.FaultUnmapped, 0xa000, 36 + 1 + 1},      // behind the last word of a page
		{0x5ffc, 8, api.FaultUnmapped, 0x5ffc, 12 + 12},         // the first of two that are refused
		{0x7ffc, 8, api.FaultUnmapped, 0x7ffc, 12 + 12},         // though the second one may be loaded
		{0x1ff8, 64, api.FaultUnmapped, 0x2000, 36 + 1 + 1 + 1}, // 14 words are left
	} {
		for _, n := range []uint32{write, send} {
			if n == send && x.n > 8 {
				continue
			}
			m := booted(t, three())
			before := stateOf(m)
			wantCall(t, m, 1, 9, n, regs(0, x.at, x.n), hyper.Answer{Cycles: 10 + x.cycles, Fault: x.fault, Addr: x.addr})
			wantState(t, m, before)
		}
	}
}

// TestFaultKeepsWhatWaited: a message that was written ahead of one that cannot
// be copied waits still.
func TestFaultKeepsWhatWaited(t *testing.T) {
	m := fed(t)
	before := stateOf(m)
	wantCall(t, m, 1, 50, write, regs(0, 0x4000, 4), hyper.Answer{Cycles: 10 + 24, Fault: api.FaultUnmapped, Addr: 0x4000})
	wantCall(t, m, 1, 50, send, regs(0, 0x6000, 4), hyper.Answer{Cycles: 10 + 1 + 1, Fault: api.FaultDenied, Addr: 0x6000})
	wantState(t, m, before)
}

// sent is a machine with a message of 64 bytes in the sampling port 0, and one
// of 8 bytes in the queue 0, both to be read by the cell 2.
func sent(t testing.TB) *boot.Machine {
	t.Helper()
	m := booted(t, three())
	if m.Samples[0].Write(1, 70, numbered(1, 64)) != api.OK || m.Queues[0].Send(1, 71, numbered(101, 8)) != api.OK {
		t.Fatal("it could not be written, or sent")
	}
	turn(m, 1)
	return m
}

// TestFaultsOfStores: those ahead of the one that is refused stay stored; a
// queue's message is received all the same.
func TestFaultsOfStores(t *testing.T) {
	for _, x := range []struct {
		at     uint32
		fault  api.Fault
		addr   uint32
		cycles int
		stored int // bytes
	}{
		{0x4000, api.FaultUnmapped, 0x4000, 12 + 12, 0},
		{0x1000, api.FaultDenied, 0x1000, 12 + 12, 0},
		{0x6000, api.FaultDenied, 0x6000, 12 + 12, 0},
		{0xfffffffc, api.FaultDenied, 0xfffffffc, 12 + 12, 0},
		{0xffc, api.FaultDenied, 0x1000, 36 + 1 + 1, 4},
		{0x9ffc, api.FaultUnmapped, 0xa000, 36 + 1 + 1, 4},
	} {
		physical := map[uint32]uint32{0xffc: 45*page - 4, 0x9ffc: 43*page - 4}[x.at]
		want := hyper.Answer{Cycles: 10 + x.cycles, Fault: x.fault, Addr: x.addr}

		m := sent(t)
		state := stateOf(m)
		state.memory.Write(physical, numbered(1, x.stored))
		wantCall(t, m, 2, 9, read, regs(0, x.at, 55), want)
		wantState(t, m, state) // the message can be read again

		m = sent(t)
		state = stateOf(m)
		state.memory.Write(physical, numbered(101, x.stored))
		state.queues[0] = api.QueueState{Stat: api.QueueStat{Accepted: 1, Received: 1}}
		wantCall(t, m, 2, 9, receive, regs(0, x.at, 55), want)
		wantState(t, m, state)
		wantValue(t, m, 2, 9, receive, regs(0, 0x8000, 55), nothing)
	}
}

// TestFaultFarOn: many words are stored ahead of the one that is refused.
func TestFaultFarOn(t *testing.T) {
	m := sent(t)
	state := stateOf(m)
	state.memory.Write(43*page-40, numbered(1, 40))
	// the last 8 bytes of one line, two lines, then two entries that are remembered by the cache
	wantCall(t, m, 2, 9, read, regs(0, 0x9fd8, 55), hyper.Answer{Cycles: 10 + 37 + 15 + 15 + 2, Fault: api.FaultUnmapped, Addr: 0xa000})
	wantState(t, m, state)
}

// TestFaultIsRemembered: what a TLB knows of a page costs nothing, also if it
// refuses.
func TestFaultIsRemembered(t *testing.T) {
	m := sent(t)
	m.MMU.Fetch(2, 0x1000)
	m.MMU.Fetch(2, 0x6000)
	wantCall(t, m, 2, 9, read, regs(0, 0x1ffc), hyper.Answer{Cycles: 10, Fault: api.FaultDenied, Addr: 0x1ffc})
	wantCall(t, m, 2, 9, write, regs(2, 0x6010, 8), hyper.Answer{Cycles: 10, Fault: api.FaultDenied, Addr: 0x6010})
}

// TestFaultsOfTables: whatever their words say.
func TestFaultsOfTables(t *testing.T) {
	for _, x := range []struct {
		word  uint32
		fault api.Fault
	}{{0, api.FaultUnmapped}, {2, api.FaultMalformed}, {64<<12 | 7, api.FaultOutside}, {41<<12 | 1 | 8, api.FaultDenied}} {
		m := sent(t)
		table, _ := m.Memory.Load(m.Roots[1], 4)
		m.Memory.Store(table&^(page-1)+8*4, 4, x.word)
		wantCall(t, m, 2, 9, read, regs(0, 0x8000), hyper.Answer{Cycles: 10 + 24, Fault: x.fault, Addr: 0x8000})
		wantCall(t, m, 2, 9, write, regs(2, 0x8000, 4), hyper.Answer{Cycles: 10 + 2, Fault: x.fault, Addr: 0x8000})
	}
}
