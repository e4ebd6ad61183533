package hyper_test

import (
	"math"
	"testing"

	"cloister/api"
	"cloister/hyper"
	"cloister/mmu"
)

// TestSample: from one cell's memory to another's, by way of the window's end.
func TestSample(t *testing.T) {
	m := booted(t, three(), load(1, 0x8010, numbered(1, 64)))
	const tick = 5<<32 + 77
	// two entries and the first word: three misses; then 15 words in four lines
	wantCall(t, m, 1, tick, write, regs(0, 0x8010, 64), hyper.Answer{Cycles: 10 + 36 + 3*12 + 12}, 0)
	s := m.Samples[0].State()
	if s.There || !s.Waits || !sameMessage(s.Next, api.Message{Data: numbered(1, 64), Tick: tick}) {
		t.Errorf("the port has %+v", s)
	}
	wantValue(t, m, 2, 99, read, regs(0, 0x8100, 5), nothing)
	turn(m, 2)
	wantValue(t, m, 3, 99, read, regs(0, 0x8100, 5), nothing)
	turn(m, 1)
	for _, cell := range []int{2, 3, 2} { // reading changes nothing
		m.MMU.Flush()
		wantCall(t, m, cell, 99, read, regs(0, 0x8100, 5), hyper.Answer{Cycles: 10 + 36 + 3*12 + 12, Value: 64}, 64, 77, 5)
	}
	for _, at := range []uint32{41, 51} {
		wantBytes(t, m, at*page+0x100-1, append(append([]byte{0}, numbered(1, 64)...), 0))
	}
	// what is written again is not seen till then
	m.MMU.Flush()
	wantCall(t, m, 1, tick+1, write, regs(0, 0x8020, 8), hyper.Answer{Cycles: 10 + 36 + 1}, 0)
	m.MMU.Flush()
	wantCall(t, m, 2, 99, read, regs(0, 0x8100), hyper.Answer{Cycles: 10 + 36 + 3*12 + 12, Value: 64}, 64, 77, 5)
	turn(m, 1)
	m.MMU.Flush()
	wantCall(t, m, 2, 99, read, regs(0, 0x8200), hyper.Answer{Cycles: 10 + 36 + 1, Value: 8}, 8, 78, 5)
	wantBytes(t, m, 41*page+0x200, append(numbered(17, 8), 0, 0, 0, 0))
}

// TestQueue: messages in their order, each once.
func TestQueue(t *testing.T) {
	m := booted(t, three(), load(1, 0x8000, numbered(1, 24)))
	m.MMU.Load(1, 0x8000, 4)
	m.MMU.Load(1, 0x8010, 4)
	for i := range uint32(3) {
		wantCall(t, m, 1, uint64(i)<<33+9, send, regs(0, 0x8000+8*i, 8-4*(i%2)), hyper.Answer{Cycles: 12 - int(i%2)}, 0)
	}
	wantCall(t, m, 1, 50, send, regs(0, 0x8000, 4), hyper.Answer{Cycles: 11, Value: full}, full) // the quota is used up
	wantValue(t, m, 1, 50, send, regs(0, 0x8000, 0), full)
	if s := m.Queues[0].Stat(); s != (api.QueueStat{Accepted: 3, Staged: 3}) {
		t.Errorf("staged: %+v", s)
	}
	wantValue(t, m, 2, 60, receive, regs(0, 0x8000), nothing)
	turn(m, 1)
	m.MMU.Flush()
	wantCall(t, m, 2, 60, receive, regs(0, 0x8000, 3), hyper.Answer{Cycles: 10 + 36 + 1, Value: 8}, 8, 9, 0)
	wantCall(t, m, 2, 60, receive, regs(0, 0x8008, 3), hyper.Answer{Cycles: 10 + 1, Value: 4}, 4, 9, 2)
	wantValue(t, m, 2, 60, receive, regs(0, 0x8000, 3), nothing) // the third one was lost
	wantBytes(t, m, 41*page, append(numbered(1, 12), 0, 0, 0, 0))
	if s := m.Queues[0].Stat(); s != (api.QueueStat{Accepted: 3, Received: 2, Lost: 1}) {
		t.Errorf("in the end: %+v", s)
	}
}

// TestFlow: a flow-controlled queue is full till something is received, by its
// Depth, and takes no notice of its Quota.
func TestFlow(t *testing.T) {
	m := booted(t, three())
	m.MMU.Load(2, 0x8000, 4)
	for range 2 {
		wantCall(t, m, 2, 5, send, regs(1, 0x8000, 4), hyper.Answer{Cycles: 11}, 0)
	}
	for range 3 {
		wantCall(t, m, 2, 5, send, regs(1, 0x8000, 4), hyper.Answer{Cycles: 11, Value: full}, full)
		turn(m, 2)
	}
	wantCall(t, m, 1, 6, receive, regs(1, 0x8000), hyper.Answer{Cycles: 10 + 36, Value: 4}, 4, 5, 0)
	m.MMU.Flush()
	wantCall(t, m, 2, 7, send, regs(1, 0x8000, 4), hyper.Answer{Cycles: 10 + 36}, 0)
	wantCall(t, m, 2, 7, send, regs(1, 0x8000, 4), hyper.Answer{Cycles: 11, Value: full}, full)
}

// TestFullCopies: a message is copied ahead of being refused; one that cannot
// be copied is a fault, whether there is room or not.
func TestFullCopies(t *testing.T) {
	m := booted(t, three())
	for range 3 {
		hyper.Call(m, 1, 5, send, &api.Regs{})
	}
	wantCall(t, m, 1, 5, send, regs(0, 0x8000, 8), hyper.Answer{Cycles: 10 + 36 + 1, Value: full}, full)
	m.MMU.Flush()
	wantCall(t, m, 1, 5, send, regs(0, 0x9ffc, 8), hyper.Answer{Cycles: 10 + 36 + 2, Fault: api.FaultUnmapped, Addr: 0xa000})
}

// TestEmptyMessages: they have no word that could be refused, wherever they
// are.
func TestEmptyMessages(t *testing.T) {
	m := booted(t, three())
	for _, at := range []uint32{0, 4, 0x4000, 0x6000, 0xfffffffc} {
		wantValue(t, m, 1, 3, write, regs(0, at, 0), 0)
		wantValue(t, m, 1, 4, send, regs(0, at, 0), 0)
		turn(m, 1)
		wantCall(t, m, 2, 9, read, regs(0, at, 7), hyper.Answer{Cycles: 10}, 0, 3, 0)
		wantCall(t, m, 2, 9, receive, regs(0, at, 7), hyper.Answer{Cycles: 10}, 0, 4, 0)
		wantValue(t, m, 2, 9, receive, regs(0, at, 7), nothing)
	}
}

// TestTicks: a message's tick comes back in two registers, whichever it is.
func TestTicks(t *testing.T) {
	m := booted(t, three())
	for _, tick := range []uint64{0, 1, math.MaxUint32, 1 << 32, 1<<32 + 1, api.MaxTick, api.MaxTick + 1, 0xfedcba9876543210, math.MaxUint64} {
		low, high := uint32(tick), uint32(tick>>32)
		wantValue(t, m, 1, tick, write, regs(0, 0, 0), 0)
		wantValue(t, m, 1, tick, send, regs(0, 0, 0), 0)
		turn(m, 1)
		wantCall(t, m, 3, 9, read, regs(0, 0, 7), hyper.Answer{Cycles: 10}, 0, low, high)
		wantCall(t, m, 2, 9, receive, regs(0, 0, 7), hyper.Answer{Cycles: 10}, 0, low, high)
	}
}

// costs is what it costs to load n bytes at 0x8000, word by word, and to store
// them, each time with nothing in TLB and cache.
func costs(u *mmu.MMU, cell int, n uint32) (loads, stores int) {
	u.Flush()
	for offset := uint32(0); offset < n; offset += 4 {
		_, cycles, _ := u.Load(cell, 0x8000+offset, 4)
		loads += cycles
	}
	u.Flush()
	for offset := uint32(0); offset < n; offset += 4 {
		cycles, _ := u.Store(cell, 0x8000+offset, 4, 1)
		stores += cycles
	}
	return loads, stores
}

// TestLengths: all that a port takes, word by word.
func TestLengths(t *testing.T) {
	m, other := booted(t, three(), load(2, 0x8000, numbered(3, 256))), booted(t, three())
	for n := uint32(0); n <= 256; n += 4 {
		m.MMU.Flush()
		loads, _ := costs(other.MMU, 2, n)
		wantCall(t, m, 2, uint64(n), write, regs(2, 0x8000, n), hyper.Answer{Cycles: 10 + loads}, 0)
		turn(m, 2)
		m.MMU.Flush()
		m.Memory.Fill(33*page, 512, 0xee)
		_, stores := costs(other.MMU, 1, n)
		wantCall(t, m, 1, 5, read, regs(2, 0x8000), hyper.Answer{Cycles: 10 + stores, Value: n}, n, n, 0)
		wantBytes(t, m, 33*page, append(numbered(3, int(n)), 0xee, 0xee, 0xee, 0xee))
	}
}

// TestRoundTheEnd: a message's words follow upon one another modulo 2 to the
// 32.
func TestRoundTheEnd(t *testing.T) {
	m := booted(t, three(), load(1, 0xfffffff8, numbered(1, 8)), load(1, 0, numbered(9, 8)))
	a := hyper.Answer{Cycles: 10 + 36 + 1 + 36 + 1}
	wantCall(t, m, 1, 2, write, regs(0, 0xfffffff8, 16), a, 0)
	if s := m.Samples[0].State(); !sameMessage(s.Next, api.Message{Data: numbered(1, 16), Tick: 2}) {
		t.Errorf("the port has %+v", s)
	}
	turn(m, 1)
	m.MMU.Flush()
	a.Value = 16
	wantCall(t, m, 3, 2, read, regs(0, 0xfffffff8, 16), a, 16, 2, 0)
	wantBytes(t, m, 54*page-8, numbered(1, 8))
	wantBytes(t, m, 54*page, numbered(9, 8))
}

// TestAllPorts: as many as there can be, by their numbers.
func TestAllPorts(t *testing.T) {
	g := three()
	g.Samples, g.Queues = nil, nil
	for i := range 16 {
		g.Samples = append(g.Samples, api.Sample{Writer: 1 + i%3, Size: 4, Readers: []int{1 + (i+1)%3}})
		g.Queues = append(g.Queues, api.Queue{Writer: 1 + (i+1)%3, Reader: 1 + i%3, Size: 4, Depth: 1, Quota: 1, Flow: i%2 == 0})
	}
	m := booted(t, g)
	for i := range 16 {
		writer, reader := 1+i%3, 1+(i+1)%3
		wantValue(t, m, writer, 100+uint64(i), write, regs(uint32(i), 0, 0), 0)
		wantValue(t, m, reader, 200+uint64(i), send, regs(uint32(i), 0, 0), 0)
	}
	for cell := 1; cell <= 3; cell++ {
		turn(m, cell)
	}
	for i := range uint32(16) {
		writer, reader := 1+int(i)%3, 1+int(i+1)%3
		wantCall(t, m, reader, 5, read, regs(i, 0, 9), hyper.Answer{Cycles: 10}, 0, 100+i, 0)
		wantCall(t, m, writer, 5, receive, regs(i, 0, 9), hyper.Answer{Cycles: 10}, 0, 200+i, 0)
	}
	for n := uint32(write); n <= receive; n++ {
		for cell := 1; cell <= 3; cell++ {
			wantValue(t, m, cell, 5, n, regs(16, 0, 0), who)
		}
	}
}
