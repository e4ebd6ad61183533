package monitor_test

import (
	"bytes"
	"math/rand"
	"runtime"
	"slices"
	"sync"
	"testing"
	"time"

	"cloister/api"
	"cloister/monitor"
)

// scribble writes over a list, and what stands behind it.
func scribble[T any](l []T, x T) {
	l = l[:cap(l)]
	for i := range l {
		l[i] = x
	}
}

// scribbleState writes over all lists of a state.
func scribbleState(s api.State) {
	scribble(s.Blob, 0xee)
	for _, p := range s.Pages {
		scribble(p.Bytes, 0xee)
	}
	for _, p := range s.Samples {
		scribble(p.Last.Data, 0xee)
		scribble(p.Next.Data, 0xee)
	}
	for _, q := range s.Queues {
		for _, m := range slices.Concat(q.Queued, q.Staged) {
			scribble(m.Data, 0xee)
		}
		scribble(q.Queued, api.Message{Tick: 7})
		scribble(q.Staged, api.Message{Tick: 7})
	}
	scribble(s.Pages, api.Page{Number: 7})
	scribble(s.Cells, api.CellState{Halted: true})
	scribble(s.Lines, api.Line{Set: 7, Dirty: true})
	scribble(s.Slots, api.Slot{Tag: api.Tag{Cell: 7}})
	scribble(s.Samples, api.SampleState{There: true})
	scribble(s.Queues, api.QueueState{})
	scribble(s.Arrivals, api.Arrival{Tick: 7})
}

// TestStatesAreNewMemory: whoever writes into one changes neither the monitor,
// nor another state.
func TestStatesAreNewMemory(t *testing.T) {
	m, other := busyMonitor(t), busyMonitor(t)
	for _, tick := range []uint64{100, 1500, 6100, 8000, 15000, 40000} {
		run(t, m, tick)
		run(t, other, tick)
		kept := m.State()
		scribbleState(m.State())
		wantState(t, m, kept)
		wantState(t, other, kept)
	}
	if a, b := run(t, m, 90000), run(t, other, 90000); !slices.Equal(a, b) {
		t.Error("a monitor goes on otherwise")
	}
}

// TestListsOfAStateAreApart: one is written over, and all others stay.
func TestListsOfAStateAreApart(t *testing.T) {
	want := midst(t)
	s := midst(t)
	for i := range s.Pages {
		scribble(s.Pages[i].Bytes, 0xee)
		if s.Pages[i].Bytes = want.Pages[i].Bytes; unlike(s, want) != "" {
			t.Fatalf("page %d shares memory", s.Pages[i].Number)
		}
	}
	scribble(s.Samples[0].Next.Data, 0xee)
	if s.Samples[0].Next.Data = want.Samples[0].Next.Data; unlike(s, want) != "" {
		t.Error("a sample shares memory")
	}
	staged := s.Queues[0].Staged
	for i := range staged {
		scribble(staged[i].Data, 0xee)
		if staged[i].Data = want.Queues[0].Staged[i].Data; unlike(s, want) != "" {
			t.Error("a message shares memory")
		}
	}
}

// TestNothingIsKept: of what was handed in: it may be changed later.
func TestNothingIsKept(t *testing.T) {
	g := three()
	blob := blobOf(t, g)
	l := []api.Load{program(t, 1, busy), program(t, 2, busy), program(t, 3, busy)}
	m, e := monitor.New(blob, l...)
	if e != api.OK {
		t.Fatal(e)
	}
	comes := []api.Arrival{{Tick: 7000, Line: 4}, {Tick: 500, Line: 3}}
	script(t, m, comes...)
	other := programmed(t, g, busy, busy, busy)
	script(t, other, comes...)
	scribble(blob, 0xee)
	for _, x := range l {
		scribble(x.Data, 0xee)
	}
	scribble(l, api.Load{})
	scribble(comes, api.Arrival{Tick: 1, Line: 31})
	if a, b := run(t, m, 50000), run(t, other, 50000); !slices.Equal(a, b) || len(a) == 0 {
		t.Error("a monitor goes on otherwise")
	}
	s := m.State()
	n := resumed(t, s)
	scribbleState(s)
	wantState(t, n, m.State())
	if a, b := run(t, m, 90000), run(t, n, 90000); !slices.Equal(a, b) {
		t.Error("a monitor of a state goes on otherwise")
	}
}

// TestNothingIsChanged: of what is handed in, nor what stands behind it.
func TestNothingIsChanged(t *testing.T) {
	s, want := midst(t), midst(t)
	s.Blob = append(s.Blob, 1, 2, 3)[:len(s.Blob)]
	for i := range s.Pages {
		s.Pages[i].Bytes = append(s.Pages[i].Bytes, 9)[:page]
	}
	s.Pages = append(s.Pages, api.Page{Number: 60})[:len(s.Pages)]
	s.Slots = append(s.Slots, api.Slot{Tag: api.Tag{Cell: 5}})[:len(s.Slots)]
	s.Lines = append(s.Lines, api.Line{Set: 5})[:len(s.Lines)]
	s.Cells = append(s.Cells, api.CellState{Halted: true})[:len(s.Cells)]
	s.Arrivals = append(s.Arrivals, api.Arrival{Tick: 5})[:len(s.Arrivals)]
	m := resumed(t, s)
	script(t, m, api.Arrival{Tick: 9000, Line: 3})
	run(t, m, 90000)
	if part := unlike(s, want); part != "" {
		t.Errorf("a state is another one, by its %s", part)
	}
	behind := []bool{
		bytes.Equal(s.Blob[len(s.Blob):len(s.Blob)+3], []byte{1, 2, 3}),
		s.Pages[0].Bytes[:page+1][page] == 9 && s.Pages[10].Bytes[:page+1][page] == 9,
		s.Pages[:len(s.Pages)+1][len(s.Pages)].Number == 60,
		s.Slots[:len(s.Slots)+1][len(s.Slots)].Tag.Cell == 5,
		s.Lines[:len(s.Lines)+1][len(s.Lines)].Set == 5,
		s.Cells[:len(s.Cells)+1][len(s.Cells)].Halted,
		s.Arrivals[:len(s.Arrivals)+1][len(s.Arrivals)].Tick == 5,
	}
	if i := slices.Index(behind, false); i >= 0 {
		t.Errorf("what stands behind the list %d was changed", i)
	}
	l := []api.Arrival{{Tick: 9e4, Line: 9}, {Tick: 9e5, Line: 8}, {Tick: 8e5, Line: 7}, {Tick: 1}}
	script(t, m, l[:3]...)
	if !slices.Equal(l, []api.Arrival{{Tick: 9e4, Line: 9}, {Tick: 9e5, Line: 8}, {Tick: 8e5, Line: 7}, {Tick: 1}}) {
		t.Errorf("arrivals were changed: %v", l)
	}
}

// TestAnswersAreNewMemory: observations, and bytes.
func TestAnswersAreNewMemory(t *testing.T) {
	m, other := busyMonitor(t), busyMonitor(t)
	var all, want []api.Obs
	for tick := uint64(100); tick < 40000; tick += 700 {
		l := run(t, m, tick)
		all = append(all, l...)
		scribble(l, api.Obs{})
		want = append(want, run(t, other, tick)...)
		b := peeked(t, m, 1, data, 100)
		kept := bytes.Clone(b)
		scribble(b, 0xee)
		if !bytes.Equal(peeked(t, m, 1, data, 100), kept) {
			t.Fatal("bytes that were told are kept")
		}
		c := cellOf(t, m, 1)
		c.Regs.R[1]++
	}
	if !slices.Equal(all, want) {
		t.Error("a monitor goes on otherwise")
	}
	wantState(t, m, other.State())
}

// TestMonitorsAreApart: two of one blob, and one that was made of the other
// one's state, know nothing of one another.
func TestMonitorsAreApart(t *testing.T) {
	m, other := busyMonitor(t), busyMonitor(t)
	first := other.State()
	run(t, m, 1500)
	wantState(t, other, first)
	s := m.State()
	n := resumed(t, s)
	run(t, n, 40000)
	script(t, n, api.Arrival{Tick: 50000})
	wantState(t, m, s)
	run(t, m, 90000)
	run(t, other, 1500)
	wantState(t, other, s)
}

// TestManyAtOnce: each in its goroutine, as if it were alone.
func TestManyAtOnce(t *testing.T) {
	want := run(t, busyMonitor(t), 90000)
	var all sync.WaitGroup
	for range 8 {
		m := busyMonitor(t)
		all.Go(func() {
			var l []api.Obs
			for tick := uint64(0); tick <= 90000; tick += 1000 {
				part, _ := m.Run(tick)
				l = append(l, part...)
				m.State()
			}
			if !slices.Equal(l, want) {
				t.Errorf("%d observations, want %d", len(l), len(want))
			}
		})
	}
	all.Wait()
}

// TestNobodyIsLeft: R4: all goroutines that a run began have ended when it
// answers. (One that has said so may not be gone yet: that is waited for.)
func TestNobodyIsLeft(t *testing.T) {
	m := busyMonitor(t)
	before := runtime.NumGoroutine()
	for tick := uint64(0); tick < 60000; tick += 11 {
		run(t, m, tick)
		m.Run(1 << 63)
	}
	for range 500 {
		if runtime.NumGoroutine() <= before {
			return
		}
		time.Sleep(10 * time.Millisecond)
	}
	t.Errorf("there were %d goroutines, and are %d", before, runtime.NumGoroutine())
}

// twist changes something of a state, whatever comes of it.
func twist(random *rand.Rand, s *api.State) {
	tick := pick(random, s.Tick+1, s.Tick-1, 0, uint64(random.Intn(60000)), uint64(random.Intn(20))*1000, random.Uint64(), api.MaxTick)
	switch random.Intn(14) {
	case 0:
		s.Tick = tick
	case 1:
		s.Waits = !s.Waits
	case 2:
		s.Pages = append(s.Pages, api.Page{Number: random.Uint32(), Bytes: make([]byte, random.Intn(3)*2048)})
	case 3:
		p := &s.Pages[random.Intn(len(s.Pages))]
		p.Number = pick(random, p.Number+1, p.Number-1, random.Uint32())
	case 4:
		c := &s.Cells[random.Intn(len(s.Cells))]
		c.Regs.R[random.Intn(16)], c.Regs.PC, c.Halted = random.Uint32(), random.Uint32(), random.Intn(2) == 0
	case 5:
		s.Cells = s.Cells[:random.Intn(len(s.Cells)+1)]
	case 6:
		s.Lines = append(s.Lines, api.Line{Set: uint32(random.Intn(17)), Tag: random.Uint32() >> random.Intn(32), Dirty: true})
	case 7:
		s.Slots = append(s.Slots, api.Slot{Tag: api.Tag{Cell: random.Intn(5) - 1, Page: random.Uint32()}})
	case 8:
		s.Slots = append(s.Slots, pick(random, allSlots(1+random.Intn(3))...))
	case 9:
		s.Gic.Route[random.Intn(32)] = random.Intn(12) - 2
	case 10:
		s.Gic.Pending, s.Gic.Masked = random.Uint32(), random.Uint32()&random.Uint32()
	case 11:
		s.Samples[random.Intn(len(s.Samples))] = api.SampleState{There: random.Intn(2) == 0, Waits: true, Next: api.Message{Data: make([]byte, random.Intn(70)), Tick: tick}}
	case 12:
		n := random.Intn(4)
		s.Queues[random.Intn(len(s.Queues))] = api.QueueState{Stat: api.QueueStat{Accepted: n, Staged: n - random.Intn(2)}, Staged: make([]api.Message, n)}
	case 13:
		s.Arrivals = append(s.Arrivals, api.Arrival{Tick: tick, Line: random.Intn(35) - 1})
	}
}

// TestAnyStates: a state is taken, and told again and gone on from, or refused:
// no call panics, whatever it is.
func TestAnyStates(t *testing.T) {
	random := rand.New(rand.NewSource(2120))
	taken, refused := 0, 0
	for range 1500 {
		s := pick(random, midst, atEnd, atStart, atWait)(t)
		for range 1 + random.Intn(2) {
			if len(s.Cells) > 0 {
				twist(random, &s)
			}
		}
		m, e := monitor.Resume(s)
		if e != api.OK {
			if refused++; e != api.ErrMonitorForm || m != nil {
				t.Fatalf("Resume = %d", e)
			}
			continue
		}
		taken++
		wantState(t, m, s)
		for range 4 {
			run(t, m, min(m.Now()+uint64(random.Intn(9000)), api.MaxTick))
			wantState(t, resumed(t, m.State()), m.State())
		}
	}
	if taken < 150 || refused < 500 {
		t.Errorf("%d states were taken, %d refused: the test asks too little", taken, refused)
	}
}
