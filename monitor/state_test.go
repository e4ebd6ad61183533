package monitor_test

import (
	"bytes"
	"slices"
	"testing"

	"cloister/api"
	"cloister/boot"
	"cloister/cache"
	"cloister/mmu"
	"cloister/tlb"
)

// TestStateIsAll: part by part, in the midst of a window.
func TestStateIsAll(t *testing.T) {
	g := three()
	source := "lui r2, 2\nsw r2, 8(r2)\naddi r3, r0, 8\nhcall 3\nmv r1, r0\nhcall 1\naddi r1, r0, 8\nhcall 5\nj 0"
	m := programmed(t, g, source, "halt")
	script(t, m, api.Arrival{Tick: 9000, Line: 5}, api.Arrival{Tick: 101, Line: 3}, api.Arrival{Tick: 102, Line: 0}, api.Arrival{Tick: 8000, Line: 5}, api.Arrival{Tick: 8000, Line: 2})
	l := run(t, m, 1000)
	if len(l) != 3 {
		t.Fatalf("observations: %+v", l)
	}
	s := m.State()
	if !bytes.Equal(s.Blob, blobOf(t, g)) {
		t.Error("the blob is another one")
	}
	if s.Tick != m.Now() || s.Waits {
		t.Errorf("Tick = %d, Waits = %v", s.Tick, s.Waits)
	}
	for i, c := range s.Cells {
		if c != cellOf(t, m, i+1) {
			t.Errorf("cell %d is %+v", i+1, c)
		}
	}
	if s.Gic.Pending != 1<<3|1<<0 || s.Gic.Masked != 1<<3 || s.Gic.Route[3] != 1 || s.Gic.Route[31] != 1 || s.Gic.Route[5] != 2 || s.Gic.Route[6] != 0 {
		t.Errorf("Gic = %+v", s.Gic)
	}
	if want := []api.Arrival{{Tick: 8000, Line: 2}, {Tick: 8000, Line: 5}, {Tick: 9000, Line: 5}}; !slices.Equal(s.Arrivals, want) {
		t.Errorf("Arrivals = %v", s.Arrivals)
	}
	message := []byte{0, 0, 0, 0, 0, 0, 0, 0}
	if want := (api.QueueState{Stat: api.QueueStat{Accepted: 1, Staged: 1}, Staged: []api.Message{{Data: message, Tick: l[0].Tick}}}); !sameQueue(s.Queues[0], want) {
		t.Errorf("Queues[0] = %+v", s.Queues[0])
	}
	if want := (api.SampleState{Waits: true, Next: api.Message{Data: message, Tick: l[1].Tick}}); !sameSample(s.Samples[0], want) {
		t.Errorf("Samples[0] = %+v", s.Samples[0])
	}
	wantPages(t, g, s.Pages)
	wantUsed(t, g, s)
}

// wantPages wants the pages of a machine of three cells, two of which have a
// program, and the first one of which has written.
func wantPages(t *testing.T, g api.Config, pages []api.Page) {
	t.Helper()
	booted, _ := boot.Boot(blobOf(t, g))
	own := 0
	for number, b := range booted.Memory.All() {
		if i := slices.IndexFunc(pages, func(p api.Page) bool { return p.Number == number }); i < 0 || !bytes.Equal(pages[i].Bytes, b) {
			t.Errorf("the tables' page %d is not told", number)
		}
		own++
	}
	var others []uint32
	for _, p := range pages[own:] {
		others = append(others, p.Number)
	}
	if own != 9 || !slices.Equal(others, []uint32{32, 33, 40, 50}) || pages[own+1].Bytes[9] != 0x80 { // each cell has a root, and two tables
		t.Errorf("%d pages of tables, and those of the numbers %v", own, others)
	}
}

// wantUsed wants TLB and cache as an MMU leaves them that is used likewise.
func wantUsed(t *testing.T, g api.Config, s api.State) {
	t.Helper()
	m, _ := boot.Boot(blobOf(t, g))
	c, _ := cache.New(g.Shape)
	b, _ := tlb.New(g.Slots)
	u, _ := mmu.New(m.Memory, c, b)
	u.Root(1, m.Roots[0])
	u.Fetch(1, entry)
	u.Fetch(1, entry+4)
	u.Store(1, data+8, 4, 0)
	for i := uint32(2); i < 5; i++ {
		u.Fetch(1, entry+4*i)
		u.Load(1, data, 4)
		u.Load(1, data+4, 4)
	}
	u.Fetch(1, entry+20)
	u.Load(1, data, 4)
	u.Fetch(1, entry+24)
	u.Fetch(1, entry+32)
	if !slices.Equal(s.Slots, b.Slots()) || !slices.Equal(s.Lines, c.Lines()) {
		t.Errorf("Slots = %+v, Lines = %+v, want %+v, %+v", s.Slots, s.Lines, b.Slots(), c.Lines())
	}
}

// TestStateChangesNothing: who is asked for it goes on as who is not.
func TestStateChangesNothing(t *testing.T) {
	m, other := programmed(t, three(), handler, handler), programmed(t, three(), handler, handler)
	for _, x := range []uint64{200, 300, 7000, 9000} {
		script(t, m, api.Arrival{Tick: x, Line: 5}, api.Arrival{Tick: x, Line: 3})
		script(t, other, api.Arrival{Tick: x, Line: 5}, api.Arrival{Tick: x, Line: 3})
	}
	for tick := uint64(0); tick < 40000; tick += 97 {
		m.State()
		if a, b := run(t, m, tick), run(t, other, tick); !slices.Equal(a, b) {
			t.Fatalf("up to %d: %+v, want %+v", tick, a, b)
		}
	}
	wantState(t, m, other.State())
}
