package hyper_test

import (
	"math/rand"
	"slices"
	"testing"

	"cloister/api"
	"cloister/boot"
	"cloister/gic"
	"cloister/hyper"
	"cloister/mmu"
	"cloister/valid"
)

// letter is a message, word by word.
type letter struct {
	words []uint32
	tick  uint64
}

func (l letter) message() api.Message {
	m := api.Message{Tick: l.tick}
	for _, w := range l.words {
		m.Data = append(m.Data, byte(w), byte(w>>8), byte(w>>16), byte(w>>24))
	}
	return m
}

// box is what a port has: letters that are seen, and letters that wait.
type box struct {
	seen, waits []letter
	stat        api.QueueStat // its counts alone
}

// model is a machine in plain words: permissions are looked up in the
// configuration, memory is words, ports are boxes. What an access costs is
// asked of an MMU of its own, which makes the same ones.
type model struct {
	g       api.Config
	words   map[uint32]uint32 // by their physical addresses
	samples []box
	queues  []box
	gic     *gic.Gic
	costs   *mmu.MMU
}

func modelOf(m *boot.Machine) *model {
	n := &model{g: m.Config, words: map[uint32]uint32{}, gic: m.Gic, costs: m.MMU}
	n.samples = make([]box, len(n.g.Samples))
	n.queues = make([]box, len(n.g.Queues))
	for _, c := range n.g.Cells {
		for _, r := range c.Ranges {
			for at := r.Physical; at < r.Physical+uint32(r.Pages)*page; at += 4 {
				n.words[at], _ = m.Memory.Load(at, 4)
			}
		}
	}
	return n
}

// reach is where a cell's word lies.
func (m *model) reach(cell int, at uint32, p api.Perm) (uint32, api.Fault) {
	for _, r := range m.g.Cells[cell-1].Ranges {
		if offset := at - r.Virtual; offset < uint32(r.Pages)*page {
			if r.Perm&p == 0 {
				return 0, api.FaultDenied
			}
			return r.Physical + offset, api.FaultNone
		}
	}
	return 0, api.FaultUnmapped
}

// load is a message of a cell's memory; false: a word was refused.
func (m *model) load(cell int, at, n uint32, a *hyper.Answer) ([]uint32, bool) {
	var l []uint32
	for i := range n / 4 {
		physical, fault := m.reach(cell, at+4*i, api.Read)
		_, cycles, _ := m.costs.Load(cell, at+4*i, 4)
		a.Cycles += cycles
		if fault != api.FaultNone {
			a.Fault, a.Addr = fault, at+4*i
			return nil, false
		}
		l = append(l, m.words[physical])
	}
	return l, true
}

func (m *model) store(cell int, at uint32, l []uint32, a *hyper.Answer) bool {
	for i, w := range l {
		here := at + 4*uint32(i)
		physical, fault := m.reach(cell, here, api.Write)
		cycles, _ := m.costs.Store(cell, here, 4, w)
		a.Cycles += cycles
		if fault != api.FaultNone {
			a.Fault, a.Addr = fault, here
			return false
		}
		m.words[physical] = w
	}
	return true
}

// give does the calls 1 and 3.
func (m *model) give(cell int, tick uint64, n uint32, r *api.Regs, a *hyper.Answer) (uint32, bool) {
	var b *box
	var d struct {
		writer, size int
		full         bool
	}
	i := int(r.R[1])
	if n == write && i < len(m.samples) {
		b = &m.samples[i]
		d.writer, d.size = m.g.Samples[i].Writer, m.g.Samples[i].Size
	} else if n == send && i < len(m.queues) {
		b = &m.queues[i]
		q := m.g.Queues[i]
		d.writer, d.size = q.Writer, q.Size
		d.full = !q.Flow && len(b.waits) == q.Quota || q.Flow && len(b.seen)+len(b.waits) == q.Depth
	}
	if b == nil || cell != d.writer {
		return who, true
	}
	if int(r.R[3]) > d.size || r.R[3]%4 != 0 {
		return long, true
	}
	if r.R[2]%4 != 0 {
		return align, true
	}
	l, well := m.load(cell, r.R[2], r.R[3], a)
	if !well {
		return 0, false
	}
	if d.full {
		return full, true
	}
	if n == write {
		b.waits = nil
	}
	b.waits = append(b.waits, letter{l, tick})
	b.stat.Accepted++
	return 0, true
}

// take does the calls 2 and 4.
func (m *model) take(cell int, n uint32, r *api.Regs, a *hyper.Answer) (uint32, bool) {
	var b *box
	i := int(r.R[1])
	if n == read && i < len(m.samples) && slices.Contains(m.g.Samples[i].Readers, cell) {
		b = &m.samples[i]
	} else if n == receive && i < len(m.queues) && m.g.Queues[i].Reader == cell {
		b = &m.queues[i]
	}
	if b == nil {
		return who, true
	}
	if r.R[2]%4 != 0 {
		return align, true
	}
	if len(b.seen) == 0 {
		return nothing, true
	}
	l := b.seen[0]
	if n == receive {
		b.seen = b.seen[1:]
		b.stat.Received++
	}
	if !m.store(cell, r.R[2], l.words, a) {
		return 0, false
	}
	r.R[2], r.R[3] = uint32(l.tick%(1<<32)), uint32(l.tick/(1<<32))
	return uint32(4 * len(l.words)), true
}

// left is what the call 9 answers.
func (m *model) left(cell int, tick uint64) uint32 {
	for _, w := range m.g.Windows {
		end := w.Start + w.Length - valid.Switch(m.g, cell)
		if at := tick % m.g.Major; w.Cell == cell && tick < 1<<63 && w.Start <= at && at < end {
			return uint32(end - at)
		}
	}
	return 0
}

// call does one.
func (m *model) call(cell int, tick uint64, n uint32, r *api.Regs) hyper.Answer {
	a := hyper.Answer{Cycles: 10}
	v, well := uint32(number), true
	switch n {
	case write, send:
		v, well = m.give(cell, tick, n, r, &a)
	case read, receive:
		v, well = m.take(cell, n, r, &a)
	case mask:
		m.gic.Mask(cell, r.R[1])
		v = 0
	case waiting:
		v = m.gic.Waiting(cell)
	case whoAmI:
		v = uint32(cell)
	case say:
		a.Said = true
		v = r.R[1]
	case left:
		v = m.left(cell, tick)
	case wait:
		a.Waits = true
		v = 0
	case halt:
		a.Halts = true
		v = 0
	}
	if well {
		r.R[1], a.Value = v, v
	}
	return a
}

// turn is the end of a window of a cell.
func (m *model) turn(cell int) {
	for i := range m.samples {
		if b := &m.samples[i]; m.g.Samples[i].Writer == cell && len(b.waits) > 0 {
			b.seen, b.waits = b.waits, nil
		}
	}
	for i := range m.queues {
		b, q := &m.queues[i], m.g.Queues[i]
		if q.Writer != cell {
			continue
		}
		for _, l := range b.waits {
			if len(b.seen) < q.Depth {
				b.seen = append(slices.Clone(b.seen), l)
			} else {
				b.stat.Lost++
			}
		}
		b.waits = nil
	}
}

// state is the model's, as a machine's would be told; of the memory what cells
// have.
func (m *model) state(s state) state {
	s.memory = s.memory.Clone()
	for at, w := range m.words {
		s.memory.Store(at, 4, w)
	}
	s.gic, s.samples, s.queues = m.gic.State(), nil, nil
	for _, b := range m.samples {
		x := api.SampleState{There: len(b.seen) > 0, Waits: len(b.waits) > 0}
		if x.There {
			x.Last = b.seen[0].message()
		}
		if x.Waits {
			x.Next = b.waits[0].message()
		}
		s.samples = append(s.samples, x)
	}
	for _, b := range m.queues {
		x := api.QueueState{Stat: b.stat}
		x.Stat.Queued, x.Stat.Staged = len(b.seen), len(b.waits)
		for _, l := range b.seen {
			x.Queued = append(x.Queued, l.message())
		}
		for _, l := range b.waits {
			x.Staged = append(x.Staged, l.message())
		}
		s.queues = append(s.queues, x)
	}
	return s
}

// anyBytes are laid into all pages of all cells, so that no two words are the
// same.
func anyBytes(random *rand.Rand, g api.Config) []api.Load {
	var l []api.Load
	for i, c := range g.Cells {
		for _, r := range c.Ranges {
			b := make([]byte, r.Pages*page)
			random.Read(b)
			l = append(l, load(i+1, r.Virtual, b))
		}
	}
	return l
}

// anyTick is one that a machine could be at, and now and then any number.
func anyTick(random *rand.Rand, g api.Config) uint64 {
	if random.Intn(10) == 0 {
		return random.Uint64()
	}
	return uint64(random.Int63n(int64(3 * g.Major)))
}

// TestAnyCalls: calls of all cells in any order, with ends of windows and
// interrupts between them, come to what the chapter's words come to.
func TestAnyCalls(t *testing.T) {
	random := rand.New(rand.NewSource(2002))
	copied, faults, codes := 0, 0, map[uint32]int{}
	for range 60 {
		g := anyMachine(random)
		l := anyBytes(random, g)
		m, n := booted(t, g, l...), modelOf(booted(t, g, l...))
		first := stateOf(m)
		for range 600 {
			cell := 1 + random.Intn(len(g.Cells))
			tick := anyTick(random, g)
			number, r := anyAsking(random, g, cell)
			got, want := r, r
			a, b := hyper.Call(m, cell, tick, number, &got), n.call(cell, tick, number, &want)
			if a != b || got != want {
				t.Fatalf("%+v: cell %d calls %d at %d with %v: %+v, %v, want %+v, %v", g, cell, number, tick, r.R[1:4], a, got, b, want)
			}
			if uint64(a.Cycles)+61 > valid.MaxStep(g, cell) { // with the instruction itself, and its fetch
				t.Fatalf("%+v: cell %d calls %d: %d cycles", g, cell, number, a.Cycles)
			}
			switch {
			case a.Fault != api.FaultNone:
				faults++
			case a.Value > 256:
				codes[a.Value]++
			case a.Cycles > 10:
				copied++
			}
			switch random.Intn(12) {
			case 0, 1, 2:
				turn(m, cell)
				n.turn(cell)
			case 3:
				m.MMU.Flush()
				n.costs.Flush()
			case 4, 5:
				line := random.Intn(api.Lines)
				m.Gic.Raise(line)
				n.gic.Raise(line)
			}
		}
		wantState(t, m, n.state(first))
	}
	for code := uint32(number); code != 0; code++ {
		if codes[code] < 100 {
			t.Errorf("the code %d was answered %d times: the test asks too little", code, codes[code])
		}
	}
	if copied < 2000 || faults < 500 {
		t.Errorf("%d messages were copied, %d refused: the test asks too little", copied, faults)
	}
}
