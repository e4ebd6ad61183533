package monitor_test

import (
	"math/rand"
	"slices"
	"testing"

	"cloister/api"
	"cloister/graph"
	"cloister/monitor"
	"cloister/valid"
)

// of is what one cell observed.
func of(cell int, l []api.Obs) []api.Obs {
	return slices.DeleteFunc(slices.Clone(l), func(o api.Obs) bool { return o.Cell != cell })
}

// TestNoninterference: T1. Two runs agree on a cell, and on those that bear on
// it: what is laid into their memory, and their interrupts. All others are
// others.
func TestNoninterference(t *testing.T) {
	random := rand.New(rand.NewSource(2111))
	told, apart := 0, 0
	for i := range 250 {
		g := anyConfig(random)
		cell := 1 + random.Intn(len(g.Cells))
		sources := graph.Sources(g, cell)
		to := g.Major + uint64(random.Int63n(int64(4*g.Major)))
		var one, two []api.Load
		var oneComes, twoComes []api.Arrival
		ofNobody := allLines()
		for c := range g.Cells {
			l, lines := anyLoad(t, random, g, c+1), g.Cells[c].Lines
			comes := anyArrivals(random, lines, to)
			one, oneComes = append(one, l...), append(oneComes, comes...)
			if !slices.Contains(sources, c+1) {
				l, comes = anyLoad(t, random, g, c+1), anyArrivals(random, lines, to)
				apart++
			}
			two, twoComes = append(two, l...), append(twoComes, comes...)
			ofNobody = slices.DeleteFunc(ofNobody, func(line int) bool { return slices.Contains(lines, line) })
		}
		m, n := made(t, g, one...), made(t, g, two...)
		script(t, m, append(oneComes, anyArrivals(random, ofNobody, to)...)...)
		script(t, n, append(twoComes, anyArrivals(random, ofNobody, to)...)...)
		a, b := of(cell, run(t, m, to)), of(cell, run(t, n, to))
		if !slices.Equal(a, b) {
			t.Fatalf("machine %d: cell %d, on which %v bear, observed %d and %d things up to %d", i, cell, sources, len(a), len(b), to)
		}
		told += len(a)
	}
	if told < 10000 || apart < 200 {
		t.Errorf("%d observations, and %d cells that were others: the test asks too little", told, apart)
	}
}

// windowAt is the window in which a tick is, or that ends there: when it starts,
// and when it ends.
func windowAt(g api.Config, tick uint64) (w api.Window, start, end uint64) {
	for _, w := range g.Windows {
		for _, frame := range []uint64{tick / g.Major, (tick - 1) / g.Major} {
			if start := w.Start + frame*g.Major; tick >= start && tick < start+w.Length {
				return w, start, start + w.Length
			}
		}
	}
	return api.Window{}, 0, 0
}

// startsUpTo is when the windows of each cell start, ahead of a tick.
func startsUpTo(g api.Config, to uint64) map[uint64]int {
	starts := map[uint64]int{}
	for frame := uint64(0); frame*g.Major < to; frame++ {
		for _, w := range g.Windows {
			if at := frame*g.Major + w.Start; at < to {
				starts[at] = w.Cell
			}
		}
	}
	return starts
}

// TestHours: T3. One thing is done at a time: each step begins and ends within
// its window less Switch, takes at most MaxStep, and in each window of a cell
// that has not halted the first one begins at its start.
func TestHours(t *testing.T) {
	random := rand.New(rand.NewSource(2112))
	steps := 0
	for range 120 {
		g := anyConfig(random)
		m := made(t, g, anyLoads(t, random, g)...)
		to := 3 * g.Major
		script(t, m, anyArrivals(random, allLines(), to)...)
		starts := startsUpTo(g, to)
		for m.Now() < to {
			was := m.Now()
			w, start, end := windowAt(g, was)
			halted := w.Cell == 0 || cellOf(t, m, w.Cell).Halted
			for _, o := range run(t, m, was+1) {
				if o.Tick != was {
					t.Fatalf("the thing at %d was observed at %d", was, o.Tick)
				}
			}
			if halted {
				continue // the end of a window alone
			}
			steps++
			now := m.Now()
			if last := end - valid.Switch(g, w.Cell); was+valid.MaxStep(g, w.Cell) > last || now <= was || now != end && (now > last || now-was > valid.MaxStep(g, w.Cell)) {
				t.Fatalf("a step from %d to %d, in a window from %d to %d", was, now, start, end)
			}
			if was == start {
				delete(starts, start)
			}
		}
		for start, cell := range starts { // those of cells that had halted by then
			if c := cellOf(t, m, cell); !c.Halted {
				t.Fatalf("cell %d did no step at %d", cell, start)
			}
		}
	}
	if steps < 10000 {
		t.Errorf("%d steps: the test asks too little", steps)
	}
}

// call is a hypercall that was observed: the cell's registers ahead of it, and
// behind it.
type call struct {
	api.Obs
	before, after api.Regs
}

func (c call) port() uint32 { return c.before.R[1] }

// told is when a message was sent, by the registers that tell it.
func (c call) told() uint64 { return uint64(c.after.R[2]) | uint64(c.after.R[3])<<32 }

// calls goes over the hypercalls of a machine, up to a tick, when each was just
// done; and over all other things, without one.
func calls(t *testing.T, g api.Config, m *monitor.Monitor, to uint64, each func(c call, there bool)) {
	t.Helper()
	for m.Now() < to {
		var c call
		w, _, _ := windowAt(g, m.Now())
		if w.Cell > 0 {
			c.before = cellOf(t, m, w.Cell).Regs
		}
		l := run(t, m, m.Now()+1)
		if len(l) == 1 && l[0].Kind == api.ObsCall {
			c.Obs, c.after = l[0], cellOf(t, m, w.Cell).Regs
		}
		each(c, c.Kind == api.ObsCall)
	}
}

// row is all messages of a queue that were accepted, and that were received.
type row struct {
	accepted, received []api.Message
}

// isPart tells whether a row is an order-preserving part of another one.
func isPart(part, whole []api.Message) bool {
	for _, x := range whole {
		if len(part) > 0 && sameMessage(part[0], x) {
			part = part[1:]
		}
	}
	return len(part) == 0
}

// TestQueues: T5: at each tick nothing is lost unsaid; and what lies in the
// reader's memory then is what lay in the writer's.
func TestQueues(t *testing.T) {
	random := rand.New(rand.NewSource(2113))
	received, lost := 0, 0
	for range 300 {
		g, m := chatty(t, random)
		rows := make([]row, len(g.Queues))
		calls(t, g, m, 6*g.Major, func(c call, there bool) {
			for i := range rows {
				if s, e := m.Stat(i); e != api.OK || s.Accepted != s.Received+s.Queued+s.Staged+s.Lost {
					t.Fatalf("queue %d: %+v, %d", i, s, e)
				}
			}
			if there && c.A == send && c.B == 0 {
				r := &rows[c.port()]
				r.accepted = append(r.accepted, api.Message{Data: peeked(t, m, c.Cell, c.before.R[2], int(c.before.R[3])), Tick: c.Tick})
			}
			if there && c.A == receive && c.B <= api.MaxMessage {
				r := &rows[c.port()]
				r.received = append(r.received, api.Message{Data: peeked(t, m, c.Cell, c.before.R[2], int(c.B)), Tick: c.told()})
			}
		})
		for i, r := range rows {
			s, _ := m.Stat(i)
			if len(r.accepted) != s.Accepted || len(r.received) > s.Received || !isPart(r.received, r.accepted) { // of one that a fault ended nothing is told
				t.Fatalf("queue %d: %+v, of which %d and %d were followed", i, s, len(r.accepted), len(r.received))
			}
			if g.Queues[i].Flow && (s.Lost > 0 || !slices.EqualFunc(r.received, r.accepted[:len(r.received)], sameMessage)) {
				t.Fatalf("queue %d, which is flow-controlled: %+v", i, s)
			}
			received, lost = received+len(r.received), lost+s.Lost
		}
	}
	if received < 500 || lost < 100 {
		t.Errorf("%d messages were received, %d lost: the test asks too little", received, lost)
	}
}

// TestSamples: T6. What is read is what the writer wrote last in a window that
// ended at the start of the reader's window or ahead of it; reading changes
// nothing.
func TestSamples(t *testing.T) {
	type written struct {
		ends uint64 // its window
		api.Message
	}
	random := rand.New(rand.NewSource(2114))
	reads, nothings := 0, 0
	for range 150 {
		g, m := chatty(t, random)
		all := make([][]written, len(g.Samples))
		calls(t, g, m, 6*g.Major, func(c call, there bool) {
			_, start, end := windowAt(g, c.Tick)
			if there && c.A == write && c.B == 0 {
				message := api.Message{Data: peeked(t, m, c.Cell, c.before.R[2], int(c.before.R[3])), Tick: c.Tick}
				all[c.port()] = append(all[c.port()], written{end, message})
			}
			if !there || c.A != read || c.B > api.MaxMessage && c.B != nothing {
				return
			}
			seen := slices.DeleteFunc(slices.Clone(all[c.port()]), func(x written) bool { return x.ends > start })
			if len(seen) == 0 || c.B == nothing {
				if nothings++; len(seen) != 0 || c.B != nothing {
					t.Fatalf("of %d messages cell %d is told %d", len(seen), c.Cell, c.B)
				}
				return
			}
			reads++
			want := seen[len(seen)-1].Message
			if got := (api.Message{Data: peeked(t, m, c.Cell, c.before.R[2], int(c.B)), Tick: c.told()}); !sameMessage(got, want) {
				t.Fatalf("at %d cell %d reads %+v, want %+v", c.Tick, c.Cell, got, want)
			}
		})
	}
	if reads < 500 || nothings < 100 {
		t.Errorf("%d messages were read, %d times there was none: the test asks too little", reads, nothings)
	}
}

// TestReadingChangesNothing: of a sampling port.
func TestReadingChangesNothing(t *testing.T) {
	random := rand.New(rand.NewSource(2115))
	reads := 0
	for range 10 {
		g, m := chatty(t, random)
		before := m.State().Samples
		calls(t, g, m, 3*g.Major, func(c call, there bool) {
			after := m.State().Samples
			if there && c.A == read {
				if _, start, _ := windowAt(g, c.Tick); c.Tick != start { // else an end came first
					reads++
					if !slices.EqualFunc(before, after, sameSample) {
						t.Fatalf("at %d the sampling ports were %+v, and are %+v", c.Tick, before, after)
					}
				}
			}
			before = after
		})
	}
	if reads < 50 {
		t.Errorf("%d messages were read: the test asks too little", reads)
	}
}

// TestPiecesOfARun: to a tick, and then to another one, tells what a run to the
// latter tells.
func TestPiecesOfARun(t *testing.T) {
	random := rand.New(rand.NewSource(2116))
	for range 150 {
		g := anyConfig(random)
		l := anyLoads(t, random, g)
		m, n := made(t, g, l...), made(t, g, l...)
		to := uint64(random.Int63n(int64(5 * g.Major)))
		comes := anyArrivals(random, allLines(), to+1)
		script(t, m, comes...)
		script(t, n, comes...)
		var pieces []api.Obs
		for at := uint64(0); at < to; {
			at = min(to, at+uint64(pick(random, random.Intn(3), random.Intn(300), random.Intn(10000))))
			pieces = append(pieces, run(t, n, at)...)
		}
		if whole := run(t, m, to); !slices.Equal(whole, pieces) {
			t.Fatalf("up to %d: %d observations, in pieces %d", to, len(whole), len(pieces))
		}
		wantState(t, n, m.State())
	}
}

// TestGoingOnAnywhere: Resume of State goes on as the monitor goes on from which
// it came.
func TestGoingOnAnywhere(t *testing.T) {
	random := rand.New(rand.NewSource(2117))
	for range 150 {
		g := anyConfig(random)
		m := made(t, g, anyLoads(t, random, g)...)
		to := 4 * g.Major
		script(t, m, anyArrivals(random, allLines(), to)...)
		for m.Now() < to {
			s := m.State()
			n := resumed(t, s)
			wantState(t, n, s)
			at := s.Tick + uint64(pick(random, 1, random.Intn(300), random.Intn(20000)))
			if a, b := run(t, m, at), run(t, n, at); !slices.Equal(a, b) {
				t.Fatalf("from %d to %d: %d observations, want %d", s.Tick, at, len(b), len(a))
			}
			wantState(t, n, m.State())
			if random.Intn(2) == 0 {
				m = n
			}
		}
	}
}
