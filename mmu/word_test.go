package mmu_test

import (
	"math"
	"testing"

	"cloister/api"
)

// words: a cell whose page 0 may be read and written, page 1 read, page 2 read
// and executed, page 3 executed; all of page 5 but the last, of 6.
func words(t *testing.T) machine {
	t.Helper()
	return build(t, usual, 4, []api.Range{one(0, 5, rw), one(pageSize, 5, api.Read), one(2*pageSize, 5, rx), one(3*pageSize, 6, api.Exec)})
}

// TestSizes: those that may be, at each address of a few, lowest byte first.
func TestSizes(t *testing.T) {
	x := words(t)
	b := []byte{0x10, 0x21, 0x32, 0x43, 0x54, 0x65, 0x76, 0x87}
	x.m.Write(5*pageSize, b)
	x.m.Write(6*pageSize-8, b)
	x.u.Load(1, 0, 1)
	x.u.Load(1, 4095, 1)
	for _, base := range []uint32{0, 4088} {
		for i := range uint32(8) {
			value := uint32(0)
			for k, size := range []int{1, 2, 4} {
				if i%uint32(size) != 0 {
					wantLoad(t, x.u, 1, base+i, size, 0, 0, api.FaultAlign)
					wantStore(t, x.u, 1, base+i, size, 0, 0, api.FaultAlign)
					continue
				}
				value = 0
				for j := range uint32(size) {
					value |= uint32(b[i+j]) << (8 * j)
				}
				wantLoad(t, x.u, 1, base+i, size, value, 1, api.FaultNone)
				if k == 2 {
					x.u.Flush()
					wantFetch(t, x.u, 1, 2*pageSize+base+i, value, 36, api.FaultNone)
					x.u.Load(1, 0, 1)
					x.u.Load(1, 4095, 1)
				}
			}
		}
	}
}

// TestNoSizes: FaultAlign comes ahead of all else, costs nothing, and changes
// nothing.
func TestNoSizes(t *testing.T) {
	x := words(t)
	wantStore(t, x.u, 1, 0, 4, 0x01020304, 36, api.FaultNone)
	was := x.state()
	for _, size := range []int{0, 3, 5, 6, 7, 8, 16, 255, 256, 257, -1, -2, -4, 1 << 32, 1<<32 + 1, 1<<32 + 2, 1<<32 + 4, -1<<32 + 4, math.MaxInt, math.MinInt, math.MinInt + 4} {
		for _, at := range []uint32{0, 3, 8, 4 * pageSize, 1<<32 - 8} {
			for _, cell := range []int{1, 2, 0, -1} {
				wantLoad(t, x.u, cell, at, size, 0, 0, api.FaultAlign)
				wantStore(t, x.u, cell, at, size, 0, 0, api.FaultAlign)
			}
		}
	}
	for _, at := range []uint32{1, 2, 3, 5, 2*pageSize + 1, 2*pageSize + 2, 3*pageSize - 1, 4*pageSize + 2, 1<<32 - 1, 1<<32 - 2} {
		for _, cell := range []int{1, 2, 9} {
			wantFetch(t, x.u, cell, at, 0, 0, api.FaultAlign)
			wantLoad(t, x.u, cell, at, 4, 0, 0, api.FaultAlign)
			wantStore(t, x.u, cell, at, 4, 0, 0, api.FaultAlign)
			if at%2 != 0 {
				wantLoad(t, x.u, cell, at, 2, 0, 0, api.FaultAlign)
				wantStore(t, x.u, cell, at, 2, 0, 0, api.FaultAlign)
			}
		}
	}
	wantSame(t, "FaultAlign", x, was)
}

// TestStore: the lowest bytes of the number, and nothing beside them.
func TestStore(t *testing.T) {
	for _, size := range []int{1, 2, 4} {
		for _, at := range []uint32{0, 4, 8, 4092} {
			x := words(t)
			x.m.Fill(5*pageSize, pageSize, 0xee)
			was := x.state()
			wantStore(t, x.u, 1, at, size, 0x87654321, 36, api.FaultNone)
			was.m.Store(5*pageSize+at, size, 0x87654321)
			wantMemory(t, "Store", x, was)
			if there, dirty := x.c.Holds(5*pageSize + at); !there || !dirty || x.c.Dirty() != 1 || len(x.c.Lines()) != 3 {
				t.Errorf("Store(%#x, %d): the lines %v", at, size, x.c.Lines())
			}
			wantStore(t, x.u, 1, at, size, 0, 1, api.FaultNone)
			wantFlush(t, x.u, 16+8)
		}
	}
}

// TestLoadReads: neither Load nor Fetch has a line be dirty.
func TestLoadReads(t *testing.T) {
	x := words(t)
	wantLoad(t, x.u, 1, 0, 4, 0, 36, api.FaultNone)
	wantFetch(t, x.u, 1, 2*pageSize+16, 0, 1+1+12, api.FaultNone)
	if n := x.c.Dirty(); n != 0 {
		t.Errorf("%d dirty lines", n)
	}
}

// TestPerms: what is done is what must be let by: with a TLB that remembers
// the page, and without. What is refused uses no word, and stores none.
func TestPerms(t *testing.T) {
	for page, p := range []api.Perm{rw, api.Read, rx, api.Exec} {
		at := uint32(page) * pageSize
		for _, known := range []bool{false, true} {
			for _, a := range accesses {
				x := words(t)
				walk := 24
				if known {
					x.u.Translate(1, at, api.AccessRead)
					x.u.Translate(1, at, api.AccessExec)
					x.c.Flush()
					walk = 0
				}
				was, n, f := x.state(), walk+12, api.FaultNone
				if !lets(p, a) {
					n, f = walk, api.FaultDenied
				}
				switch a {
				case api.AccessRead:
					wantLoad(t, x.u, 1, at, 4, 0, n, f)
				case api.AccessWrite:
					wantStore(t, x.u, 1, at, 4, 1, n, f)
				case api.AccessExec:
					wantFetch(t, x.u, 1, at, 0, n, f)
				}
				if f != api.FaultNone {
					wantMemory(t, "what is refused", x, was)
					if got := len(x.c.Lines()); got != walk/12 {
						t.Errorf("page %d, access %d: %d lines", page, a, got)
					}
				}
			}
		}
	}
}

// TestWordFaults: each fault of Translate is told, with its cycles and without
// a number.
func TestWordFaults(t *testing.T) {
	x := build(t, usual, 4, []api.Range{one(0, 5, rw), one(pageSize, 5, rw), one(2*pageSize, 63, 7), one(3*pageSize, 4095, 7)})
	setWord(t, x.m, 41*pageSize+4, 0x5002) // malformed, in the place of page 1
	for _, c := range []struct {
		at uint32
		n  int
		f  api.Fault
	}{{pageSize, 2, api.FaultMalformed}, {3 * pageSize, 2, api.FaultOutside}, {bigPage - 4, 2, api.FaultUnmapped}, {bigPage, 1, api.FaultUnmapped}, {1<<32 - 4, 1, api.FaultUnmapped}} {
		x.u.Flush()
		wantLoad(t, x.u, 1, c.at, 4, 0, 12*c.n, c.f)
		wantLoad(t, x.u, 1, c.at, 4, 0, c.n, c.f)
		wantFetch(t, x.u, 1, c.at, 0, c.n, c.f)
		wantStore(t, x.u, 1, c.at, 4, 7, c.n, c.f)
	}
	x.u.Flush()
	wantStore(t, x.u, 1, 3*pageSize-4, 4, 0xabcdef01, 36, api.FaultNone) // the memory's last word
	wantWord(t, x.m, 64*pageSize-4, 0xabcdef01)
	wantFetch(t, x.u, 1, 3*pageSize-4, 0xabcdef01, 1, api.FaultNone)

	x.put(slot(1, 7, 64, 7))
	was := x.state()
	wantLoad(t, x.u, 1, 7*pageSize, 4, 0, 0, api.FaultOutside)
	wantFetch(t, x.u, 1, 7*pageSize, 0, 0, api.FaultOutside)
	wantStore(t, x.u, 1, 7*pageSize, 4, 1, 0, api.FaultOutside)
	wantSame(t, "a frame outside the memory", x, was)
}

// TestStoreIntoTables: a cell that may write its own tables: what the TLB
// remembers holds until it is flushed.
func TestStoreIntoTables(t *testing.T) {
	x := build(t, usual, 4, []api.Range{one(0, 41, rw), one(pageSize, 5, api.Read)})
	setWord(t, x.m, 6*pageSize, 66)
	wantLoad(t, x.u, 1, pageSize, 4, 0, 36, api.FaultNone)
	wantStore(t, x.u, 1, 4, 4, pageWord(rw, 6), 1+1+1, api.FaultNone)
	wantLoad(t, x.u, 1, pageSize, 4, 0, 1, api.FaultNone)
	wantStore(t, x.u, 1, pageSize, 4, 7, 0, api.FaultDenied)
	wantFlush(t, x.u, 16+8)
	wantLoad(t, x.u, 1, pageSize, 4, 66, 36, api.FaultNone)
	wantStore(t, x.u, 1, pageSize, 4, 7, 1, api.FaultNone)
	wantWord(t, x.m, 6*pageSize, 7)
}
