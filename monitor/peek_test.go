package monitor_test

import (
	"bytes"
	"math"
	"testing"

	"cloister/api"
	"cloister/monitor"
)

func wantPeek(t *testing.T, m *monitor.Monitor, cell int, at uint32, n int, want []byte) {
	t.Helper()
	if b, e := m.Peek(cell, at, n); e != api.OK || !bytes.Equal(b, want) {
		t.Errorf("Peek(%d, %#x, %d) = %d bytes, %d, want %d bytes", cell, at, n, len(b), e, len(want))
	}
}

func wantNoPeek(t *testing.T, m *monitor.Monitor, cell int, at uint32, n int) {
	t.Helper()
	if b, e := m.Peek(cell, at, n); e != api.ErrMonitorArg || len(b) != 0 {
		t.Errorf("Peek(%d, %#x, %d) = %d bytes, %d", cell, at, n, len(b), e)
	}
}

// TestPeek: across pages, wherever they lie; up to the last address.
func TestPeek(t *testing.T) {
	g := three()
	g.Cells[0].Ranges[1].Pages = 1
	g.Cells[0].Ranges = append(g.Cells[0].Ranges, api.Range{Virtual: data + page, Physical: 60 * page, Pages: 1, Perm: api.Read}) // it goes on somewhere else
	b := make([]byte, 2*page)
	for i := range b {
		b[i] = byte(i * 7 / 3)
	}
	m := made(t, g, api.Load{Cell: 1, At: data, Data: b}, api.Load{Cell: 1, At: 0xfffff000, Data: b[:page]}, api.Load{Cell: 2, At: data, Data: []byte{1, 2}}, api.Load{Cell: 1, At: 0x6000, Data: []byte{9}})
	before := m.State()
	wantPeek(t, m, 1, data, 2*page, b)
	wantPeek(t, m, 1, data+1, 2*page-1, b[1:])
	wantPeek(t, m, 1, data+4095, 2, b[4095:4097])
	wantPeek(t, m, 1, data+4096, 1, b[4096:4097])
	wantPeek(t, m, 1, data+77, 1, b[77:78])
	wantPeek(t, m, 1, 0xffffffff, 1, b[4095:4096])
	wantPeek(t, m, 1, 0xfffff000, page, b[:page])
	wantPeek(t, m, 2, data, 2, []byte{1, 2})
	wantPeek(t, m, 3, data, 2, []byte{0, 0})
	wantPeek(t, m, 1, entry, page, make([]byte, page))
	for _, at := range []uint32{0, 1, 0x6000, 0x7fff, 0xffffffff} {
		wantPeek(t, m, 1, at, 0, nil)
	}
	for _, cell := range []int{0, -1, 4, 8, 9, 1<<32 + 1, math.MinInt, math.MaxInt} {
		wantNoPeek(t, m, cell, data, 1)
		wantNoPeek(t, m, cell, data, 0)
	}
	for _, n := range []int{-1, 65537, 1 << 31, 1 << 32, math.MinInt, math.MaxInt} {
		wantNoPeek(t, m, 1, data, n)
		wantNoPeek(t, m, 1, 0xffffffff, n)
	}
	wantNoPeek(t, m, 1, data-1, 1)
	wantNoPeek(t, m, 1, data-1, 2)
	wantNoPeek(t, m, 1, data+2*page, 1)
	wantNoPeek(t, m, 1, data, 2*page+1)
	wantNoPeek(t, m, 1, 0x6000, 1) // it may be executed alone
	wantNoPeek(t, m, 1, 0, 1)
	wantNoPeek(t, m, 1, 0xffffffff, 2)
	wantNoPeek(t, m, 1, 0xfffff000, page+1)
	wantState(t, m, before)
}

// TestPeekDoesNotWrap: behind the last address there is nothing, though the cell
// may read the first one.
func TestPeekDoesNotWrap(t *testing.T) {
	g := alone(1000, 1000)
	g.Cells[0].Ranges[1].Virtual = 0
	g.Cells[0].Ranges[0].Virtual, g.Cells[0].Entry = 2*page, 2*page
	g.Cells[0].Ranges[1].Pages = 1
	m := made(t, g)
	wantPeek(t, m, 1, 0, page, make([]byte, page))
	wantPeek(t, m, 1, 0xfffff000, page, make([]byte, page))
	wantNoPeek(t, m, 1, 0xfffff000, page+1)
	wantNoPeek(t, m, 1, 0xffffffff, 2)
	wantNoPeek(t, m, 1, 0xffffffff, 65536)
}

// TestPeekAtMost: 65536 bytes.
func TestPeekAtMost(t *testing.T) {
	g := alone(1000, 1000)
	g.Cells[0].Ranges[1] = api.Range{Virtual: data, Physical: 32 * page, Pages: 17, Perm: rw}
	g.Cells[0].Ranges = g.Cells[0].Ranges[:2]
	g.Cells[0].Ranges[0].Physical = 60 * page
	b := bytes.Repeat([]byte{1, 2, 3, 4, 5, 6, 7, 8}, 17*page/8)
	m := made(t, g, api.Load{Cell: 1, At: data, Data: b})
	wantPeek(t, m, 1, data+page, 65536, b[page:])
	wantPeek(t, m, 1, data+3, 65536, b[3:65539])
	wantNoPeek(t, m, 1, data, 65537)
}

// TestPeekIsNoUse: it costs nothing, and nothing is changed by it, also in the
// midst of a window.
func TestPeekIsNoUse(t *testing.T) {
	source := "lui r2, 2\ntop: lw r1, 0(r2)\naddi r1, r1, 1\nsw r1, 0(r2)\nclock r3\nj top"
	m, other := programmed(t, three(), source), programmed(t, three(), source)
	for tick := uint64(100); tick < 8000; tick += 13 {
		run(t, m, tick)
		run(t, other, tick)
		before := m.State()
		if v := peeked(t, m, 1, data, 4); tick > 1000 && v[0] == 0 && v[1] == 0 {
			t.Fatalf("at %d: %v", tick, v)
		}
		peeked(t, m, 2, 0xfffff800, 100)
		wantNoPeek(t, m, 1, data+page-4, 2*page)
		wantState(t, m, before)
	}
	wantState(t, m, other.State())
}
