package hyper_test

import (
	"math/rand"
	"testing"

	"cloister/api"
	"cloister/valid"
)

// TestSwitches: the numbers on which the tests of this file lean.
func TestSwitches(t *testing.T) {
	for i, want := range []uint64{160, 500, 150} {
		if n := valid.Switch(three(), i+1); n != want {
			t.Errorf("Switch of cell %d is %d", i+1, n)
		}
	}
}

// TestLeft: in each window, at its edges and at those of what is left of it, in
// each of several frames.
func TestLeft(t *testing.T) {
	m := booted(t, three())
	before := stateOf(m)
	for _, frame := range []uint64{0, 30000, 90000, 30000 << 32, 30000 * (api.MaxTick/30000 - 1)} {
		for _, x := range []struct {
			tick uint64
			left [3]uint32
		}{
			{0, [3]uint32{}}, {99, [3]uint32{}}, // ahead of the first window
			{100, [3]uint32{5840}}, {101, [3]uint32{5839}}, {5938, [3]uint32{2}}, {5939, [3]uint32{1}},
			{5940, [3]uint32{}}, {5941, [3]uint32{}}, {6099, [3]uint32{}},
			{6100, [3]uint32{0, 5500}}, {11599, [3]uint32{0, 1}}, {11600, [3]uint32{}}, {12099, [3]uint32{}},
			{12100, [3]uint32{}}, {14999, [3]uint32{}}, // between windows
			{15000, [3]uint32{4840}}, {19839, [3]uint32{1}}, {19840, [3]uint32{}}, {20000, [3]uint32{}},
			{21000, [3]uint32{0, 0, 8850}}, {29849, [3]uint32{0, 0, 1}}, {29850, [3]uint32{}}, {29999, [3]uint32{}},
		} {
			for i, want := range x.left {
				wantValue(t, m, i+1, frame+x.tick, left, regs(7, 8, 9), want)
			}
		}
	}
	wantState(t, m, before)
}

// TestLeftAtTheEnd: up to the last tick, in a window that ends behind it, and
// not behind it.
func TestLeftAtTheEnd(t *testing.T) {
	g := three()
	g.Major = 40000
	at := uint64(api.MaxTick)%g.Major - 1000
	g.Windows = []api.Window{{Cell: 1, Start: at, Length: 6000}}
	if e, n := valid.Check(g); e != api.OK {
		t.Fatalf("valid.Check = %d, %d", e, n)
	}
	m := booted(t, g)
	wantValue(t, m, 1, api.MaxTick-1000, left, regs(), 5840)
	wantValue(t, m, 1, api.MaxTick-1001, left, regs(), 0)
	wantValue(t, m, 1, api.MaxTick, left, regs(), 4840)
	wantValue(t, m, 2, api.MaxTick, left, regs(), 0)
	for _, tick := range []uint64{api.MaxTick + 1, api.MaxTick + 2, api.MaxTick + 40001, 1<<63 + at, 1<<64 - 1} {
		wantValue(t, m, 1, tick, left, regs(), 0)
	}
}

// TestLeftModulo: of a window that has more ticks than a register can tell.
func TestLeftModulo(t *testing.T) {
	g := three()
	g.Major = api.MaxMajor
	g.Windows = []api.Window{{Cell: 1, Length: api.MaxMajor}}
	m := booted(t, g)
	const end = api.MaxMajor - 160
	for _, x := range []struct {
		tick uint64
		want uint32
	}{
		{0, 1<<32 - 160}, {1, 1<<32 - 161}, {end - 1<<32 - 1, 1}, {end - 1<<32, 0}, {end - 1<<32 + 1, 1<<32 - 1},
		{end - 5<<32 - 7, 7}, {end - 1, 1}, {end, 0}, {end + 1, 0}, {end + 159, 0}, {end + 160, 1<<32 - 160},
	} {
		wantValue(t, m, 1, x.tick, left, regs(), x.want)
		wantValue(t, m, 2, x.tick, left, regs(), 0)
	}
}

// TestLeftOfAny: it is what can be counted, tick by tick, of any table.
func TestLeftOfAny(t *testing.T) {
	random := rand.New(rand.NewSource(2001))
	for range 30 {
		g := anyMachine(random)
		m := booted(t, g)
		for range 200 {
			tick := uint64(random.Int63n(int64(2 * g.Major)))
			cell := 1 + random.Intn(len(g.Cells))
			var want uint32
			for _, w := range g.Windows {
				end := w.Start + w.Length
				for at := tick % g.Major; w.Cell == cell && w.Start <= at && at+valid.Switch(g, cell) < end; at++ {
					want++
				}
			}
			wantValue(t, m, cell, tick, left, regs(), want)
		}
	}
}
