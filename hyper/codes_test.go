package hyper_test

import (
	"slices"
	"testing"

	"cloister/api"
	"cloister/boot"
	"cloister/hyper"
)

// fed is a machine whose ports all have a message that is seen, and one that
// waits (but a flow-controlled queue that is full by that).
func fed(t testing.TB) *boot.Machine {
	t.Helper()
	m := booted(t, three(), load(1, 0x8000, numbered(1, 256)), load(2, 0x8000, numbered(2, 256)), load(3, 0x8000, numbered(3, 256)))
	for tick := range uint64(2) {
		for i := range uint32(3) {
			for cell := 1; cell <= 3; cell++ {
				for _, n := range []uint32{write, send} {
					r := regs(i, 0x8000, 4)
					hyper.Call(m, cell, 10+tick, n, &r)
				}
			}
		}
		if tick == 0 {
			turn(m, 1)
			turn(m, 2)
			turn(m, 3)
		}
	}
	m.MMU.Flush()
	return m
}

// wantCode wants a code, 10 cycles, and nothing changed but R1: neither ports,
// nor what accesses cost from then on.
func wantCode(t testing.TB, m *boot.Machine, cell int, n uint32, r api.Regs, want uint32) {
	t.Helper()
	wantValue(t, m, cell, 300, n, r, want)
	if _, cycles, _ := m.MMU.Load(cell, 0x8000, 4); cycles != 36 {
		t.Errorf("cell %d calls %d with %v: a load costs %d then", cell, n, r.R[1:4], cycles)
	}
	m.MMU.Flush()
}

// TestWho: no such port, or not this cell's, whatever else is wrong.
func TestWho(t *testing.T) {
	m := fed(t)
	before := stateOf(m)
	g := three()
	for cell := 1; cell <= 3; cell++ {
		for _, i := range []uint32{0, 1, 2, 3, 4, 15, 16, 255, 256, 1 << 16, 1 << 31, 1<<32 - 1, 1<<32 - 3} {
			there := i < 3
			own := map[uint32]bool{
				write:   there && g.Samples[i%3].Writer == cell,
				read:    there && slices.Contains(g.Samples[i%3].Readers, cell),
				send:    there && g.Queues[i%3].Writer == cell,
				receive: there && g.Queues[i%3].Reader == cell,
			}
			for n := uint32(write); n <= receive; n++ {
				if own[n] {
					continue
				}
				for _, r := range []api.Regs{regs(i, 0x8000, 4), regs(i, 0x8000, 3), regs(i, 0x8001, 260), regs(i, 0x4000, 4), regs(i, 1<<32-1, 1<<32-1)} {
					wantCode(t, m, cell, n, r, who)
				}
			}
		}
	}
	wantState(t, m, before)
}

// TestWhoWithoutPorts: there is none to ask.
func TestWhoWithoutPorts(t *testing.T) {
	g := three()
	g.Samples, g.Queues = nil, nil
	m := booted(t, g)
	for n := uint32(write); n <= receive; n++ {
		for _, i := range []uint32{0, 1, 1<<32 - 1} {
			wantCode(t, m, 2, n, regs(i, 0x8000, 4), who)
		}
	}
}

// written are the ports of three, who writes each, and its Size.
func written() []struct {
	cell          int
	n, port, size uint32
} {
	return []struct {
		cell          int
		n, port, size uint32
	}{{1, write, 0, 64}, {3, write, 1, 4}, {2, write, 2, 256}, {1, send, 0, 8}, {2, send, 1, 256}, {3, send, 2, 4}}
}

// TestLong: more than Size, or no multiple of 4, whatever the address is.
func TestLong(t *testing.T) {
	m := fed(t)
	before := stateOf(m)
	for _, p := range written() {
		for _, length := range []uint32{p.size + 1, p.size + 4, 2 * p.size, 260, 1 << 16, 1<<31 + 4, 1<<32 - 4, 1<<32 - 1, 1, 2, 3, p.size - 1, p.size - 2, p.size - 3} {
			for _, at := range []uint32{0x8000, 0x8001, 0x4000, 0x6002, 1<<32 - 1} {
				wantCode(t, m, p.cell, p.n, regs(p.port, at, length), long)
			}
		}
	}
	wantState(t, m, before)
}

// TestAlign: an address that is no multiple of 4, whether there is something to
// copy or not, room or not.
func TestAlign(t *testing.T) {
	m := fed(t)
	before := stateOf(m)
	for _, at := range []uint32{0x8001, 0x8002, 0x8003, 0x4001, 0x6002, 1<<32 - 1, 1, 0x80000002} {
		for _, p := range written() {
			for _, length := range []uint32{0, 4, p.size} {
				wantCode(t, m, p.cell, p.n, regs(p.port, at, length), align)
			}
		}
		for _, x := range []struct {
			cell    int
			n, port uint32
		}{{2, read, 0}, {3, read, 0}, {1, read, 1}, {1, read, 2}, {2, receive, 0}, {1, receive, 1}, {2, receive, 2}} {
			wantCode(t, m, x.cell, x.n, regs(x.port, at, 5), align)
		}
	}
	wantState(t, m, before)
	empty := booted(t, three())
	wantCode(t, empty, 2, receive, regs(0, 0x8002, 5), align)
	wantCode(t, empty, 2, read, regs(0, 0x8002, 5), align)
}

// TestNothingThere: wherever the message would go, and R3 is not asked.
func TestNothingThere(t *testing.T) {
	m := booted(t, three())
	before := stateOf(m)
	for _, at := range []uint32{0x8000, 0x1000, 0x4000, 1<<32 - 4} {
		for _, third := range []uint32{0, 3, 260, 1<<32 - 1} {
			wantCode(t, m, 2, read, regs(0, at, third), nothing)
			wantCode(t, m, 2, receive, regs(0, at, third), nothing)
			wantCode(t, m, 1, receive, regs(1, at, third), nothing)
		}
	}
	wantState(t, m, before)
}
