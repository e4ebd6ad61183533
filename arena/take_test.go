package arena_test

import (
	"bytes"
	"math"
	"testing"

	"cloister/api"
)

// TestTakeOfEachRegion: all pages of all regions of a memory, in their order,
// and none beyond the last.
func TestTakeOfEachRegion(t *testing.T) {
	const size = 5
	for base := range size + 1 {
		for pages := range size - base + 1 {
			a := newArena(t, written(t, size), uint32(base*pageSize), pages)
			for i := range pages {
				wantState(t, "ahead of a Take", a, pages-i, i, false)
				wantTake(t, a, uint32((base+i)*pageSize))
			}
			for range 3 {
				wantRefused(t, a, api.ErrArenaFull)
			}
			wantState(t, "all are taken", a, 0, pages, false)
		}
	}
}

// TestTakeOfUnwritten: pages that were never written are taken like others.
func TestTakeOfUnwritten(t *testing.T) {
	m := newMemory(t, 3)
	a := newArena(t, m, 0, 3)
	for i := range uint32(3) {
		wantTake(t, a, i*pageSize)
	}
	for number := range m.All() {
		t.Errorf("page %d is not all 0", number)
	}
}

// TestTakePutsToNought: what was written before, since New, and since the Take
// of the page ahead; each byte, the last one too.
func TestTakePutsToNought(t *testing.T) {
	m := newMemory(t, 4)
	m.Fill(0, 4*pageSize, 0xff)
	a := newArena(t, m, 4096, 3)
	m.Fill(4096, 3*pageSize, 0x80)
	m.Store(4096, 1, 1)
	m.Store(8191, 1, 2)
	wantTake(t, a, 4096)
	m.Fill(8192, 2*pageSize, 0x7f)
	wantTake(t, a, 8192)
	m.Store(12288, 4, math.MaxUint32)
	m.Store(16380, 4, math.MaxUint32)
	wantTake(t, a, 12288)
}

// TestTakeLeavesThoseTaken: what is built in a page stays when others are taken.
func TestTakeLeavesThoseTaken(t *testing.T) {
	m := written(t, 5)
	a := newArena(t, m, 4096, 3)
	for i := range uint32(3) {
		at := (1 + i) * pageSize
		wantTake(t, a, at)
		m.Fill(at, pageSize, byte(0xa0+i))
	}
	wantRefused(t, a, api.ErrArenaFull)
	for i := range uint32(3) {
		for _, at := range []uint32{(1 + i) * pageSize, (2+i)*pageSize - 1} {
			if v, e := m.Load(at, 1); v != 0xa0+i || e != api.OK {
				t.Errorf("Load(%d) = %x, %d, want %x", at, v, e, 0xa0+i)
			}
		}
	}
}

// TestTakeOfTheGreatest: all pages of the greatest memory, up to the last one.
func TestTakeOfTheGreatest(t *testing.T) {
	const end = mostPages * pageSize
	m := newMemory(t, mostPages)
	m.Fill(0, end, 0xff)
	a := newArena(t, m, 0, mostPages)
	for i := range mostPages {
		at, e := a.Take()
		if at != uint32(i*pageSize) || e != api.OK || a.Taken() != i+1 || a.Left() != mostPages-1-i {
			t.Fatalf("Take %d: %d, %d; %d taken, %d left", i, at, e, a.Taken(), a.Left())
		}
		if b, _ := m.Read(at, pageSize); !bytes.Equal(b, make([]byte, pageSize)) {
			t.Fatalf("Take %d: not all bytes are 0", i)
		}
		if next, e := m.Load(at+pageSize, 1); e == api.OK && next != 0xff {
			t.Fatalf("Take %d: the next page is changed", i)
		}
	}
	wantRefused(t, a, api.ErrArenaFull)

	m.Fill(0, end, 9)
	last := newArena(t, m, end-pageSize, 1)
	wantTake(t, last, end-pageSize)
	wantRefused(t, last, api.ErrArenaFull)
}

func TestTakeOfNoPages(t *testing.T) {
	for _, base := range []uint32{0, 4096, 8192} {
		a := newArena(t, written(t, 2), base, 0)
		wantState(t, "no pages", a, 0, 0, false)
		wantRefused(t, a, api.ErrArenaFull)
		a.Seal()
		wantRefused(t, a, api.ErrArenaSealed)
		wantState(t, "no pages, sealed", a, 0, 0, true)
	}
}

// TestTakeOfASealed: whatever was left, and also where all are taken: that it
// is sealed is told first.
func TestTakeOfASealed(t *testing.T) {
	for pages := range 4 {
		for taken := range pages + 1 {
			a := newArena(t, written(t, 4), 4096, pages)
			for i := range taken {
				wantTake(t, a, uint32((1+i)*pageSize))
			}
			wantState(t, "ahead of Seal", a, pages-taken, taken, false)
			a.Seal()
			for range pages + 1 {
				wantRefused(t, a, api.ErrArenaSealed)
			}
			wantState(t, "behind Seal", a, pages-taken, taken, true)
		}
	}
}

// TestSealBehindFull: an arena that has told that it is full may be sealed.
func TestSealBehindFull(t *testing.T) {
	a := newArena(t, written(t, 2), 0, 1)
	wantTake(t, a, 0)
	wantRefused(t, a, api.ErrArenaFull)
	a.Seal()
	wantRefused(t, a, api.ErrArenaSealed)
}

func TestSeal(t *testing.T) {
	m := written(t, 3)
	before := content(t, m)
	a := newArena(t, m, 0, 3)
	wantState(t, "a new one", a, 3, 0, false)
	for range 3 { // for good
		a.Seal()
		wantState(t, "sealed", a, 3, 0, true)
		wantContent(t, "sealed", m, before)
		wantRefused(t, a, api.ErrArenaSealed)
		if !a.Holds(0) || a.Holds(12288) || a.Memory() != m {
			t.Error("sealed, it has another region or memory")
		}
	}
}
