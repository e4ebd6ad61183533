package hyper_test

import (
	"math/rand"
	"slices"
	"testing"

	"cloister/api"
	"cloister/boot"
	"cloister/hyper"
)

// mayBe: is a call one that is done, by the configuration alone? (Else it is of
// a port that is not the cell's, or in a way that may not be.)
func mayBe(g api.Config, cell int, n uint32, r api.Regs) bool {
	if n < write || n > receive {
		return n >= mask && n <= halt
	}
	ports, sizes := ownPorts(g, cell, n)
	i := slices.Index(ports, r.R[1])
	if i < 0 || r.R[2]%4 != 0 {
		return false
	}
	return n == read || n == receive || r.R[3]%4 == 0 && r.R[3] <= uint32(sizes[i])
}

// TestWhatMayNotBe: it changes nothing but R1, and costs 10: a machine of which
// such things are asked, too, goes on as one of which they are not.
func TestWhatMayNotBe(t *testing.T) {
	random := rand.New(rand.NewSource(2003))
	done, refused := 0, 0
	for range 40 {
		g := anyMachine(random)
		l := anyBytes(random, g)
		m, other := booted(t, g, l...), booted(t, g, l...)
		for range 300 {
			cell, tick := 1+random.Intn(len(g.Cells)), anyTick(random, g)
			n, r := anyAsking(random, g, cell)
			was := r
			a := hyper.Call(m, cell, tick, n, &r)
			if mayBe(g, cell, n, was) {
				done++
				if b := hyper.Call(other, cell, tick, n, &was); a != b || r != was {
					t.Fatalf("%+v: cell %d calls %d: %+v, %+v, want %+v, %+v", g, cell, n, a, r, b, was)
				}
				continue
			}
			refused++
			was.R[1] = a.Value
			if a != (hyper.Answer{Cycles: 10, Value: a.Value}) || a.Value < number || r != was {
				t.Fatalf("%+v: cell %d calls %d: %+v, %+v", g, cell, n, a, r)
			}
			if random.Intn(8) == 0 {
				turn(m, cell)
				turn(other, cell)
			}
		}
		wantState(t, m, stateOf(other))
	}
	if done < 2000 || refused < 2000 {
		t.Errorf("%d calls were done, %d refused: the test asks too little", done, refused)
	}
}

// wantOthers wants that of a machine only what is a cell's own was changed.
func wantOthers(t testing.TB, g api.Config, cell int, before, after state) {
	t.Helper()
	for _, r := range g.Cells[cell-1].Ranges {
		if r.Perm&api.Write != 0 { // what it may write it may have written
			own, _ := after.memory.Read(r.Physical, r.Pages*page)
			before.memory.Write(r.Physical, own)
		}
	}
	if !before.memory.Equal(after.memory) {
		t.Error("memory that is not the cell's is another one")
	}
	var own uint32
	for _, line := range g.Cells[cell-1].Lines {
		own |= 1 << line
	}
	before.gic.Masked = before.gic.Masked&^own | after.gic.Masked&own
	if before.gic != after.gic {
		t.Errorf("the controller has %+v, and had %+v", after.gic, before.gic)
	}
	for i, s := range g.Samples {
		if s.Writer != cell && !sameSample(before.samples[i], after.samples[i]) {
			t.Errorf("sampling port %d has %+v, and had %+v", i, after.samples[i], before.samples[i])
		}
	}
	for i, q := range g.Queues {
		if q.Writer != cell && q.Reader != cell && !sameQueue(before.queues[i], after.queues[i]) {
			t.Errorf("queue %d has %+v, and had %+v", i, after.queues[i], before.queues[i])
		}
	}
}

// TestOthersStay: what a cell asks for changes nothing of others' memory and
// lines, nor of ports that are not its own.
func TestOthersStay(t *testing.T) {
	random := rand.New(rand.NewSource(2004))
	for range 30 {
		g := anyMachine(random)
		m := booted(t, g, anyBytes(random, g)...)
		for range 60 {
			cell := 1 + random.Intn(len(g.Cells))
			m.Gic.Raise(random.Intn(api.Lines))
			before := stateOf(m)
			for range 1 + random.Intn(4) {
				n, r := anyAsking(random, g, cell)
				hyper.Call(m, cell, anyTick(random, g), n, &r)
			}
			wantOthers(t, g, cell, before, stateOf(m))
			turn(m, cell)
		}
	}
}

// readAll has all readers of a machine ask for what they like, and for all that
// there is.
func readAll(random *rand.Rand, m *boot.Machine, writer int) {
	for cell := range m.Config.Cells {
		for range random.Intn(20) {
			n, r := anyAsking(random, m.Config, cell+1)
			if cell+1 != writer {
				hyper.Call(m, cell+1, anyTick(random, m.Config), n, &r)
			}
		}
	}
}

// TestWritersKnowNothing: what Write, and Send to a one-way queue, answers and
// costs hangs on nothing that readers do.
func TestWritersKnowNothing(t *testing.T) {
	random := rand.New(rand.NewSource(2005))
	written, filled := 0, 0
	for range 40 {
		g := anyMachine(random)
		for i := range g.Queues {
			g.Queues[i].Flow = false
		}
		g = placed(random, api.Config{Shape: g.Shape, Slots: g.Slots, Cells: g.Cells, Samples: g.Samples, Queues: g.Queues})
		l := anyBytes(random, g)
		m, lonely := booted(t, g, l...), booted(t, g, l...)
		writer := g.Queues[0].Writer
		for range 30 {
			readAll(random, m, writer)
			m.MMU.Flush()
			lonely.MMU.Flush()
			for range random.Intn(20) {
				n, r := anyAsking(random, g, writer)
				if n != write && n != send {
					continue
				}
				tick, alone := anyTick(random, g), r
				a, b := hyper.Call(m, writer, tick, n, &r), hyper.Call(lonely, writer, tick, n, &alone)
				if a != b || r != alone {
					t.Fatalf("%+v: cell %d calls %d: %+v, %v, and alone %+v, %v", g, writer, n, a, r, b, alone)
				}
				if a.Value == full {
					filled++
				} else if a.Value == 0 && a.Fault == api.FaultNone {
					written++
				}
			}
			turn(m, writer)
			turn(lonely, writer)
		}
	}
	if written < 500 || filled < 50 {
		t.Errorf("%d messages were written, %d refused: the test asks too little", written, filled)
	}
}

// TestWhatIsWrittenIsRead: what lies in the writer's memory lies in each
// reader's then, wherever they have it.
func TestWhatIsWrittenIsRead(t *testing.T) {
	random := rand.New(rand.NewSource(2006))
	for i := range 200 {
		m := booted(t, three())
		from, to := 0x8000+4*uint32(random.Intn(1900)), 0x8000+4*uint32(random.Intn(1900))
		data := make([]byte, 4*(1+random.Intn(64)))
		random.Read(data)
		if e := m.Memory.Write(41*page+from-0x8000, data); e != api.OK {
			t.Fatal(e)
		}
		tick := random.Uint64()
		n := uint32(len(data))
		r := regs(2, from, n)
		if a := hyper.Call(m, 2, tick, write, &r); a.Value != 0 || a.Fault != api.FaultNone {
			t.Fatalf("%d: write: %+v", i, a)
		}
		r = regs(1, from, n)
		if a := hyper.Call(m, 2, tick+1, send, &r); a.Value != 0 || a.Fault != api.FaultNone {
			t.Fatalf("%d: send: %+v", i, a)
		}
		turn(m, 2)
		for _, x := range []struct {
			cell         int
			n, port      uint32
			physical     uint32
			tick         uint64
			againTheSame bool
		}{{3, read, 2, 51 * page, tick, true}, {1, read, 2, 33 * page, tick, true}, {1, receive, 1, 33 * page, tick + 1, false}} {
			m.Memory.Fill(x.physical, 2*page, 0)
			r := regs(x.port, to)
			if a := hyper.Call(m, x.cell, 3, x.n, &r); a.Value != n || r.R[1] != n || uint64(r.R[2])|uint64(r.R[3])<<32 != x.tick {
				t.Fatalf("%d: cell %d calls %d: %+v, %v", i, x.cell, x.n, a, r.R[1:4])
			}
			wantBytes(t, m, x.physical+to-0x8000, data)
			r = regs(x.port, to)
			if a := hyper.Call(m, x.cell, 3, x.n, &r); (a.Value == n) != x.againTheSame {
				t.Fatalf("%d: cell %d calls %d again: %+v", i, x.cell, x.n, a)
			}
		}
	}
}
