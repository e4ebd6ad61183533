package mmu_test

import (
	"testing"

	"cloister/api"
)

// lets is which bit of a Perm belongs to an access.
func lets(p api.Perm, a api.Access) bool {
	switch a {
	case api.AccessRead:
		return p&1 != 0
	case api.AccessWrite:
		return p&2 != 0
	case api.AccessExec:
		return p&4 != 0
	}
	return false
}

// TestRemembered: of a page that the TLB remembers: each Perm, also those that
// no page has, each access, and what is none; frames in the memory and not.
// The tables are not asked, nor is the cache used.
func TestRemembered(t *testing.T) {
	x := newMachine(t, 8, usual, 2)
	wantRoot(t, x.u, 5, 1<<31, api.OK)
	was := x.state()
	for p := range 256 {
		for _, frame := range []uint32{0, 1, 7, 8, 9, 4095, 4096, 1 << 20, 1<<20 + 1, 1 << 31, 1<<32 - 1} {
			x.put(slot(5, 0x12345, frame, api.Perm(p)))
			for _, a := range append(noAccess, accesses...) {
				to, f := frame*pageSize+0x678, api.FaultNone
				switch {
				case !lets(api.Perm(p), a):
					to, f = 0, api.FaultDenied
				case frame >= 8:
					to, f = 0, api.FaultOutside
				}
				wantTranslate(t, x.u, 5, 0x12345678, a, to, 0, f)
			}
			wantSlots(t, "Translate", x, slot(5, 0x12345, frame, api.Perm(p)))
		}
	}
	wantMemory(t, "Translate", x, was)
	wantLines(t, "Translate", x)
}

// TestRememberedPage: the tag is the cell and the page, each byte of it.
func TestRememberedPage(t *testing.T) {
	x := newMachine(t, 8, usual, 8)
	wantRoot(t, x.u, 1, 0, api.OK)
	wantRoot(t, x.u, 2, 0, api.OK)
	x.put(slot(1, 0, 3, 7), slot(1, 1<<20-1, 4, 7), slot(2, 6, 5, 7))
	for offset := range uint32(pageSize) {
		wantTranslate(t, x.u, 1, offset, api.AccessExec, 3*pageSize+offset, 0, api.FaultNone)
		wantTranslate(t, x.u, 1, 1<<32-pageSize+offset, api.AccessRead, 4*pageSize+offset, 0, api.FaultNone)
		wantTranslate(t, x.u, 2, 6*pageSize+offset, api.AccessWrite, 5*pageSize+offset, 0, api.FaultNone)
	}
	wantLines(t, "what is remembered", x)
	wantTranslate(t, x.u, 1, pageSize, api.AccessRead, 0, 12, api.FaultUnmapped)
	wantTranslate(t, x.u, 1, 6*pageSize, api.AccessRead, 0, 1, api.FaultUnmapped)
	wantTranslate(t, x.u, 2, 0, api.AccessRead, 0, 1, api.FaultUnmapped)
	wantTranslate(t, x.u, 2, 5*pageSize, api.AccessRead, 0, 1, api.FaultUnmapped)
	wantTranslate(t, x.u, 2, 7*pageSize, api.AccessRead, 0, 1, api.FaultUnmapped)
}

// TestLookIsUse: what is found, is used by that, also where it is refused;
// what was used least recently goes for what a walk finds.
func TestLookIsUse(t *testing.T) {
	x := build(t, usual, 3, []api.Range{one(0, 5, rw), one(pageSize, 6, api.Read), one(2*pageSize, 7, rx), one(3*pageSize, 8, rx)})
	x.put(slot(1, 9, 64, 7))
	wantTranslate(t, x.u, 1, 0, api.AccessRead, 5*pageSize, 24, api.FaultNone)
	wantTranslate(t, x.u, 1, pageSize, api.AccessRead, 6*pageSize, 2, api.FaultNone)
	wantSlots(t, "two pages", x, slot(1, 1, 6, 1), slot(1, 0, 5, 3), slot(1, 9, 64, 7))
	wantTranslate(t, x.u, 1, 9*pageSize, api.AccessRead, 0, 0, api.FaultOutside)
	wantSlots(t, "refused, outside", x, slot(1, 9, 64, 7), slot(1, 1, 6, 1), slot(1, 0, 5, 3))
	wantTranslate(t, x.u, 1, 4095, api.AccessExec, 0, 0, api.FaultDenied)
	wantSlots(t, "refused, denied", x, slot(1, 0, 5, 3), slot(1, 9, 64, 7), slot(1, 1, 6, 1))
	wantTranslate(t, x.u, 1, 2*pageSize+1, api.AccessExec, 7*pageSize+1, 2, api.FaultNone)
	wantSlots(t, "one more", x, slot(1, 2, 7, 5), slot(1, 0, 5, 3), slot(1, 9, 64, 7))
	wantTranslate(t, x.u, 1, 3*pageSize+1, api.AccessWrite, 0, 2, api.FaultDenied)
	wantTranslate(t, x.u, 1, 4*pageSize, api.AccessRead, 0, 1+12, api.FaultUnmapped) // its word begins another line
	wantSlots(t, "walks with a fault", x, slot(1, 2, 7, 5), slot(1, 0, 5, 3), slot(1, 9, 64, 7))
}

// TestWalkFaults: what a walk tells, and the cycles of the words that it has
// read; nothing is remembered of it.
func TestWalkFaults(t *testing.T) {
	x := newMachine(t, 8, usual, 4)
	wantRoot(t, x.u, 1, 2*pageSize, api.OK)
	at := uint32(3*bigPage + 7*pageSize + 9)
	check := func(first, second uint32, a api.Access, n int, f api.Fault) {
		t.Helper()
		setWord(t, x.m, 2*pageSize+4*3, first)
		setWord(t, x.m, 5*pageSize+4*7, second)
		x.u.Flush()
		was := x.state()
		wantTranslate(t, x.u, 1, at, a, 0, 12*n, f)
		wantTranslate(t, x.u, 1, at, a, 0, n, f)
		wantMemory(t, "a walk", x, was)
		wantSlots(t, "a walk with a fault", x)
		if x.c.Dirty() != 0 {
			t.Errorf("a walk leaves dirty lines")
		}
	}
	for _, a := range accesses {
		check(0, pageWord(7, 6), a, 1, api.FaultUnmapped)
		for _, w := range malformed {
			check(w, pageWord(7, 6), a, 1, api.FaultMalformed)
			check(tableWord(5), w, a, 2, api.FaultMalformed)
		}
		check(pageWord(7, 5), pageWord(7, 6), a, 1, api.FaultMalformed)
		check(tableWord(8), pageWord(7, 6), a, 1, api.FaultOutside)
		check(tableWord(4095), pageWord(7, 6), a, 1, api.FaultOutside)
		check(tableWord(5), 0, a, 2, api.FaultUnmapped)
		check(tableWord(5), tableWord(6), a, 2, api.FaultMalformed)
		check(tableWord(5), pageWord(7, 8), a, 2, api.FaultOutside)
		check(tableWord(5), pageWord(7, 4095), a, 2, api.FaultOutside)
		for _, p := range []api.Perm{1, 3, 4, 5} {
			if !lets(p, a) {
				check(tableWord(5), pageWord(p, 6), a, 2, api.FaultDenied)
				check(tableWord(5), pageWord(p, 8), a, 2, api.FaultDenied)
			}
		}
	}
	for _, a := range noAccess {
		check(tableWord(5), pageWord(7, 6), a, 2, api.FaultDenied)
	}
}

// TestWalkFinds: each Perm that a page has, with each access: the frame and
// the whole Perm are remembered, so that the next access is told without the
// tables, whatever stands there now.
func TestWalkFinds(t *testing.T) {
	x := newMachine(t, 8, usual, 4)
	wantRoot(t, x.u, 8, 2*pageSize, api.OK)
	at := uint32(1<<32 - pageSize + 0xabc)
	for _, p := range []api.Perm{1, 3, 4, 5, 7} {
		for _, frame := range []uint32{0, 1, 7} {
			for _, a := range accesses {
				if !lets(p, a) {
					continue
				}
				setWord(t, x.m, 3*pageSize-4, tableWord(5))
				setWord(t, x.m, 6*pageSize-4, pageWord(p, frame))
				x.u.Flush()
				wantTranslate(t, x.u, 8, at, a, frame*pageSize+0xabc, 24, api.FaultNone)
				wantSlots(t, "a walk", x, slot(8, 1<<20-1, frame, p))
				if x.c.Dirty() != 0 || len(x.c.Lines()) != 2 {
					t.Errorf("a walk leaves the lines %v", x.c.Lines())
				}
				setWord(t, x.m, 3*pageSize-4, 0)
				for _, other := range accesses {
					if lets(p, other) {
						wantTranslate(t, x.u, 8, at+1, other, frame*pageSize+0xabd, 0, api.FaultNone)
					} else {
						wantTranslate(t, x.u, 8, at+1, other, 0, 0, api.FaultDenied)
					}
				}
			}
		}
	}
}

// TestWalkOrder: the words of a walk are used one behind the other, and the
// word itself behind them, each at its physical address.
func TestWalkOrder(t *testing.T) {
	x := build(t, api.Shape{Sets: 1, Ways: 8, Line: 16}, 1, []api.Range{one(bigPage+5*pageSize, 9, rw)})
	wantTranslate(t, x.u, 1, bigPage+5*pageSize+64, api.AccessWrite, 9*pageSize+64, 24, api.FaultNone)
	root, table := api.Line{Tag: 40 * 256}, api.Line{Tag: 41*256 + 1}
	wantLines(t, "Translate", x, table, root)
	wantLoad(t, x.u, 1, bigPage+5*pageSize+64, 4, 0, 12, api.FaultNone)
	wantLines(t, "Load", x, api.Line{Tag: 9*256 + 4}, table, root)
	wantStore(t, x.u, 1, bigPage+5*pageSize+66, 2, 0, 1, api.FaultNone)
	wantLines(t, "Store", x, api.Line{Tag: 9*256 + 4, Dirty: true}, table, root)
	wantLoad(t, x.u, 1, 0, 4, 0, 1, api.FaultUnmapped)
	wantLines(t, "a walk of one step", x, root, api.Line{Tag: 9*256 + 4, Dirty: true}, table)
}

// TestWalkWritesBack: a word of a walk, too, can have a dirty line go: each of
// the three accesses can cost a miss and a line that is written back.
func TestWalkWritesBack(t *testing.T) {
	x := build(t, api.Shape{Sets: 4, Ways: 1, Line: 16}, 1, []api.Range{one(bigPage+5*pageSize, 9, rw)})
	dirty := func() { // the sets of the root's word, the table's and the page's
		x.u.Flush()
		for _, at := range []uint32{0, 16, 32} {
			x.c.Access(at, true)
		}
	}
	dirty()
	wantLoad(t, x.u, 1, bigPage+5*pageSize+32, 4, 0, 60, api.FaultNone)
	dirty()
	wantStore(t, x.u, 1, bigPage+5*pageSize+32, 4, 0, 60, api.FaultNone)
	dirty()
	wantTranslate(t, x.u, 1, bigPage+5*pageSize+32, api.AccessExec, 0, 40, api.FaultDenied)
	dirty()
	wantLoad(t, x.u, 1, 2*bigPage, 4, 0, 20, api.FaultUnmapped)
}
