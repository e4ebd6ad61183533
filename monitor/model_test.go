package monitor_test

import (
	"bytes"
	"math/rand"
	"slices"
	"testing"

	"cloister/api"
	"cloister/core"
	"cloister/monitor"
	"cloister/valid"
)

// plain is a machine that has no tables, no TLB, no cache's tags and no arena:
// permissions are looked up in the configuration, and what an access costs is
// worked out by the distance of its reuse within the window.
type plain struct {
	g        api.Config
	pages    map[api.Tag]*[page]byte // by cells, and their own pages
	cells    []api.CellState
	pending  uint32
	masked   uint32
	arrivals []api.Arrival
	samples  []api.SampleState
	queues   []api.QueueState
	told     []api.Obs

	// the step that is under way, and what was used in its window
	cell  int
	tick  uint64
	lines []used
	seen  []uint32
}

// used is a use of a line of memory.
type used struct {
	line       uint32
	write, hit bool
}

func plainOf(g api.Config, l ...api.Load) *plain {
	p := &plain{g: g, pages: map[api.Tag]*[page]byte{}}
	for i, c := range g.Cells {
		p.cells = append(p.cells, api.CellState{Regs: core.Reset(c.Entry)})
		for _, r := range c.Ranges {
			for n := range uint32(r.Pages) {
				p.pages[api.Tag{Cell: i + 1, Page: r.Virtual/page + n}] = &[page]byte{}
			}
		}
	}
	for _, x := range l {
		for i, b := range x.Data {
			at := x.At + uint32(i)
			p.pages[api.Tag{Cell: x.Cell, Page: at / page}][at%page] = b
		}
	}
	p.samples, p.queues = make([]api.SampleState, len(g.Samples)), make([]api.QueueState, len(g.Queues))
	return p
}

// cost is what the use of an address costs: 1, if fewer than Ways other lines
// of its set were used since it was used last.
func (p *plain) cost(at uint32, write bool) int {
	s := p.g.Shape
	u := used{line: at / uint32(s.Line), write: write}
	var others []uint32 // of this set, from the one used last on
	for _, o := range slices.Backward(p.lines) {
		if o.line == u.line {
			u.hit = len(others) < s.Ways
			break
		}
		if o.line%uint32(s.Sets) == u.line%uint32(s.Sets) && !slices.Contains(others, o.line) {
			others = append(others, o.line)
		}
	}
	cycles := 1
	if !u.hit {
		cycles = 12
		if len(others) >= s.Ways && p.dirty(others[s.Ways-1]) {
			cycles = 20
		}
	}
	p.lines = append(p.lines, u)
	return cycles
}

// dirty: was a line written since it came?
func (p *plain) dirty(line uint32) bool {
	for _, o := range slices.Backward(p.lines) {
		if o.line == line && (o.write || !o.hit) {
			return o.write
		}
	}
	return false
}

// known: were fewer than Slots other pages used since this one was?
func (p *plain) known(number uint32) bool {
	var others []uint32
	for _, o := range slices.Backward(p.seen) {
		if o == number {
			return len(others) < p.g.Slots
		}
		if !slices.Contains(others, o) {
			others = append(others, o)
		}
	}
	return false
}

// entries are where the words stand by which a page of the cell is found: one
// of the root, and one of a table, if there is one for such pages.
func (p *plain) entries(number uint32) []uint32 {
	next := p.g.OwnBase
	for i, c := range p.g.Cells {
		root := next
		next += page
		tables := map[uint32]uint32{}
		for _, r := range c.Ranges {
			for n := range uint32(r.Pages) {
				if first := (r.Virtual/page + n) >> 10; tables[first] == 0 {
					tables[first] = next
					next += page
				}
			}
		}
		if i+1 != p.cell {
			continue
		}
		l := []uint32{root + number>>10*4}
		if at, there := tables[number>>10]; there {
			l = append(l, at+number%1024*4)
		}
		return l
	}
	return nil
}

// access is where a number of the cell lies, and what it costs to come to it.
func (p *plain) access(at uint32, size int, perm api.Perm) (*[page]byte, int, api.Fault) {
	if at%uint32(size) != 0 {
		return nil, 0, api.FaultAlign
	}
	number := at / page
	i := slices.IndexFunc(p.g.Cells[p.cell-1].Ranges, func(r api.Range) bool {
		return number >= r.Virtual/page && number < r.Virtual/page+uint32(r.Pages)
	})
	cycles := 0
	if !p.known(number) {
		for _, word := range p.entries(number) {
			cycles += p.cost(word, false)
		}
	}
	if i < 0 {
		return nil, cycles, api.FaultUnmapped
	}
	r := p.g.Cells[p.cell-1].Ranges[i]
	if r.Perm&perm == 0 {
		return nil, cycles, api.FaultDenied
	}
	p.seen = append(p.seen, number)
	cycles += p.cost(r.Physical+(at-r.Virtual), perm == api.Write)
	return p.pages[api.Tag{Cell: p.cell, Page: number}], cycles, api.FaultNone
}

func (p *plain) get(at uint32, size int, perm api.Perm) (uint32, int, api.Fault) {
	b, cycles, fault := p.access(at, size, perm)
	if fault != api.FaultNone {
		return 0, cycles, fault
	}
	var v uint32
	for i := range size {
		v += uint32(b[at%page+uint32(i)]) << (8 * i)
	}
	return v, cycles, api.FaultNone
}

func (p *plain) Fetch(pc uint32) (uint32, int, api.Fault) { return p.get(pc, 4, api.Exec) }

func (p *plain) Load(at uint32, size int) (uint32, int, api.Fault) { return p.get(at, size, api.Read) }

func (p *plain) Store(at uint32, size int, v uint32) (int, api.Fault) {
	b, cycles, fault := p.access(at, size, api.Write)
	for i := range size {
		if fault == api.FaultNone {
			b[at%page+uint32(i)] = byte(v >> (8 * i))
		}
	}
	return cycles, fault
}

func (p *plain) Clock() uint64 { return p.tick }

func (p *plain) own() uint32 {
	var set uint32
	for _, line := range p.g.Cells[p.cell-1].Lines {
		set |= 1 << line
	}
	return set
}

func (p *plain) Irq() (int, bool) {
	for line := range api.Lines {
		if p.own()&p.pending&^p.masked&(1<<line) != 0 {
			p.pending &^= 1 << line
			return line, true
		}
	}
	return 0, false
}

// latch: a line that is nobody's stays as it is.
func (p *plain) latch() {
	p.arrivals = slices.DeleteFunc(p.arrivals, func(a api.Arrival) bool {
		if a.Tick > p.tick {
			return false
		}
		for _, c := range p.g.Cells {
			if slices.Contains(c.Lines, a.Line) {
				p.pending |= 1 << a.Line
			}
		}
		return true
	})
}

// step does one, and tells how many ticks it took, and whether the cell waits.
func (p *plain) step() (ticks uint64, waits bool) {
	p.latch()
	c := &p.cells[p.cell-1]
	pc := c.Regs.PC
	tell := func(k api.ObsKind, a, b uint32) {
		p.told = append(p.told, api.Obs{Tick: p.tick, Cell: p.cell, Kind: k, PC: pc, A: a, B: b})
	}
	x := core.Step(&c.Regs, p)
	switch x.Kind {
	case api.Stepped:
		if x.Loaded {
			tell(api.ObsLoad, x.Addr, x.Value)
		} else if x.Read {
			tell(api.ObsClock, uint32(p.tick%(1<<32)), uint32(p.tick/(1<<32)))
		}
	case api.Taken:
		tell(api.ObsIrq, uint32(x.Line), 0)
	case api.Waiting:
		waits = true
	case api.Halted:
		c.Halted = true
		tell(api.ObsHalt, 0, 0)
	case api.Faulted:
		c.Halted = true
		tell(api.ObsFault, uint32(x.Fault), x.Addr)
	case api.Trapped:
		cycles, fault, at := p.call(x.Number, &c.Regs)
		ticks += cycles
		switch {
		case fault != api.FaultNone:
			c.Halted = true
			tell(api.ObsFault, uint32(fault), at)
		case x.Number == say:
			tell(api.ObsSay, c.Regs.R[1], 0)
		default:
			tell(api.ObsCall, x.Number, c.Regs.R[1])
			waits, c.Halted = x.Number == wait, x.Number == halt
		}
	}
	return ticks + uint64(x.Cycles), waits
}

// run does all up to a tick.
func (p *plain) run(to uint64) []api.Obs {
	p.told = nil
	for k := 0; ; k++ {
		w := p.g.Windows[k%len(p.g.Windows)]
		start := w.Start + uint64(k/len(p.g.Windows))*p.g.Major
		end := start + w.Length
		p.cell, p.tick, p.lines, p.seen = w.Cell, start, nil, nil
		for waits := false; !waits && p.tick < to && !p.cells[w.Cell-1].Halted && p.tick+valid.MaxStep(p.g, w.Cell) <= end-valid.Switch(p.g, w.Cell); {
			var ticks uint64
			ticks, waits = p.step()
			p.tick += ticks
		}
		if end >= to {
			return p.told
		}
		p.turn()
	}
}

// want wants that a monitor has what this one has.
func (p *plain) want(t *testing.T, m *monitor.Monitor) {
	t.Helper()
	s := m.State()
	if !slices.Equal(s.Cells, p.cells) || s.Gic.Pending != p.pending || s.Gic.Masked != p.masked {
		t.Errorf("cells and lines are others")
	}
	if !slices.EqualFunc(s.Samples, p.samples, sameSample) || !slices.EqualFunc(s.Queues, p.queues, sameQueue) {
		t.Errorf("ports are others: %+v, %+v, want %+v, %+v", s.Samples, s.Queues, p.samples, p.queues)
	}
	memory := map[uint32][]byte{}
	for _, x := range s.Pages {
		memory[x.Number] = x.Bytes
	}
	for i, c := range p.g.Cells {
		for _, r := range c.Ranges {
			for n := range uint32(r.Pages) {
				want, got := p.pages[api.Tag{Cell: i + 1, Page: r.Virtual/page + n}], memory[r.Physical/page+n]
				if got == nil {
					got = make([]byte, page)
				}
				if !bytes.Equal(got, want[:]) {
					t.Errorf("cell %d has other bytes in its page %x", i+1, r.Virtual/page+n)
				}
			}
		}
	}
}

// counts is how often things were told.
type counts struct {
	kinds  [api.ObsSay + 1]int
	calls  [13]int
	codes  map[uint32]int
	faults [api.FaultIllegal + 1]int
}

func (c *counts) add(l []api.Obs) {
	for _, o := range l {
		c.kinds[o.Kind]++
		if o.Kind == api.ObsFault {
			c.faults[o.A]++
		}
		if o.Kind == api.ObsCall {
			c.calls[min(o.A, 12)]++
			if o.B > 1<<31 {
				c.codes[o.B]++
			}
		}
	}
}

// TestRefinement: T2, of any configuration and any programs.
func TestRefinement(t *testing.T) {
	random := rand.New(rand.NewSource(2110))
	c := counts{codes: map[uint32]int{}}
	for i := range 500 {
		g := anyConfig(random)
		l := anyLoads(t, random, g)
		m, p := made(t, g, l...), plainOf(g, l...)
		to := 2*g.Major + uint64(random.Int63n(int64(3*g.Major)))
		p.arrivals = anyArrivals(random, allLines(), to)
		script(t, m, p.arrivals...)
		p.arrivals = slices.Clone(p.arrivals)
		got, want := run(t, m, to), p.run(to)
		if !slices.Equal(got, want) {
			n := 0
			for n < min(len(got), len(want)) && got[n] == want[n] {
				n++
			}
			t.Fatalf("machine %d, run to %d: %d observations, want %d; the first that is another one is %d: %+v, want %+v", i, to, len(got), len(want), n, got[n:min(n+1, len(got))], want[n:min(n+1, len(want))])
		}
		p.want(t, m)
		c.add(got)
	}
	for kind, n := range c.kinds[1:] {
		if n < 20 {
			t.Errorf("the kind %d was told %d times: the test asks too little", kind+1, n)
		}
	}
	for number, n := range c.calls {
		if n < 20 && number != say {
			t.Errorf("the call %d was told %d times: the test asks too little", number, n)
		}
	}
	for _, code := range []uint32{who, full, nothing} {
		if c.codes[code] < 50 {
			t.Errorf("the code %d was told %d times: the test asks too little", code, c.codes[code])
		}
	}
	for _, f := range []api.Fault{api.FaultAlign, api.FaultUnmapped, api.FaultDenied, api.FaultIllegal} {
		if c.faults[f] < 10 {
			t.Errorf("the fault %d was told %d times: the test asks too little", f, c.faults[f])
		}
	}
}
