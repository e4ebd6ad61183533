package mmu_test

import (
	"bytes"
	"math"
	"slices"
	"testing"

	"cloister/api"
	"cloister/arena"
	"cloister/cache"
	"cloister/memory"
	"cloister/mmu"
	"cloister/tables"
	"cloister/tlb"
)

const (
	pageSize = 4096
	bigPage  = 1 << 22 // what one word of a root tells
	rw       = api.Read | api.Write
	rx       = api.Read | api.Exec
)

var (
	accesses  = []api.Access{api.AccessRead, api.AccessWrite, api.AccessExec}
	noAccess  = []api.Access{0, 4, 5, 8, -1, -2, -3, 257, 1<<32 + 1, 1<<32 + 2, 1<<32 + 3, math.MaxInt, math.MinInt, math.MinInt + 1}
	noCells   = []int{0, -1, -8, 9, 10, 16, 255, 256, 257, math.MaxInt32, 1 << 32, 1<<32 + 1, math.MaxInt, math.MinInt, math.MinInt + 1}
	usual     = api.Shape{Sets: 16, Ways: 8, Line: 16}
	smallest  = api.Shape{Sets: 1, Ways: 1, Line: 16}
	malformed = []uint32{1, 2, 4, 5, 8, 0xd, 0x10, 0x13, 0x1f, 0x23, 0x31, 0x803, 0x1000, 0x01000003, 0x01000011, 1<<32 - 1}
)

// machine is an MMU, and what it was made of.
type machine struct {
	m *memory.Memory
	c *cache.Cache
	t *tlb.TLB
	u *mmu.MMU
}

func newMachine(t *testing.T, pages int, s api.Shape, slots int) machine {
	t.Helper()
	m, e := memory.New(pages)
	if e != api.OK {
		t.Fatalf("memory.New(%d): %d", pages, e)
	}
	c, e := cache.New(s)
	if e != api.OK {
		t.Fatalf("cache.New(%v): %d", s, e)
	}
	l, e := tlb.New(slots)
	if e != api.OK {
		t.Fatalf("tlb.New(%d): %d", slots, e)
	}
	u, e := mmu.New(m, c, l)
	if e != api.OK || u == nil {
		t.Fatalf("New: %v, %d", u, e)
	}
	return machine{m, c, l, u}
}

// build is a machine of 64 pages, whose cells have these ranges; the tables
// stand from page 40 on.
func build(t *testing.T, s api.Shape, slots int, cells ...[]api.Range) machine {
	t.Helper()
	x := newMachine(t, 64, s, slots)
	a, e := arena.New(x.m, 40*pageSize, 24)
	if e != api.OK {
		t.Fatalf("arena.New: %d", e)
	}
	for i, l := range cells {
		space, e := tables.New(a)
		if e != api.OK {
			t.Fatalf("tables.New: %d", e)
		}
		if e := space.Map(l...); e != api.OK {
			t.Fatalf("Map(%v): %d", l, e)
		}
		wantRoot(t, x.u, i+1, space.Root(), api.OK)
	}
	return x
}

func pageWord(p api.Perm, frame uint32) uint32 { return frame<<12 | uint32(p)<<1 | 1 }

func tableWord(frame uint32) uint32 { return frame<<12 | 0x11 }

func one(virtual, frame uint32, p api.Perm) api.Range {
	return api.Range{Virtual: virtual, Physical: frame * pageSize, Pages: 1, Perm: p}
}

func setWord(t *testing.T, m *memory.Memory, at, w uint32) {
	t.Helper()
	if e := m.Store(at, 4, w); e != api.OK {
		t.Fatalf("Store(%#x): %d", at, e)
	}
}

func wantWord(t *testing.T, m *memory.Memory, at, want uint32) {
	t.Helper()
	if w, e := m.Load(at, 4); w != want || e != api.OK {
		t.Errorf("at %#x: %#x, %d, want %#x", at, w, e, want)
	}
}

func wantRoot(t *testing.T, u *mmu.MMU, cell int, table uint32, want api.Errno) {
	t.Helper()
	if e := u.Root(cell, table); e != want {
		t.Errorf("Root(%d, %#x): %d, want %d", cell, table, e, want)
	}
}

func wantTranslate(t *testing.T, u *mmu.MMU, cell int, at uint32, a api.Access, to uint32, n int, f api.Fault) {
	t.Helper()
	if gotTo, gotN, gotF := u.Translate(cell, at, a); gotTo != to || gotN != n || gotF != f {
		t.Errorf("Translate(%d, %#x, %d): %#x, %d, %d, want %#x, %d, %d", cell, at, a, gotTo, gotN, gotF, to, n, f)
	}
}

func wantLoad(t *testing.T, u *mmu.MMU, cell int, at uint32, size int, v uint32, n int, f api.Fault) {
	t.Helper()
	if gotV, gotN, gotF := u.Load(cell, at, size); gotV != v || gotN != n || gotF != f {
		t.Errorf("Load(%d, %#x, %d): %#x, %d, %d, want %#x, %d, %d", cell, at, size, gotV, gotN, gotF, v, n, f)
	}
}

func wantFetch(t *testing.T, u *mmu.MMU, cell int, at uint32, v uint32, n int, f api.Fault) {
	t.Helper()
	if gotV, gotN, gotF := u.Fetch(cell, at); gotV != v || gotN != n || gotF != f {
		t.Errorf("Fetch(%d, %#x): %#x, %d, %d, want %#x, %d, %d", cell, at, gotV, gotN, gotF, v, n, f)
	}
}

func wantStore(t *testing.T, u *mmu.MMU, cell int, at uint32, size int, v uint32, n int, f api.Fault) {
	t.Helper()
	if gotN, gotF := u.Store(cell, at, size, v); gotN != n || gotF != f {
		t.Errorf("Store(%d, %#x, %d, %#x): %d, %d, want %d, %d", cell, at, size, v, gotN, gotF, n, f)
	}
}

func wantRead(t *testing.T, u *mmu.MMU, cell int, at uint32, size int, b []byte, n int, f api.Fault) {
	t.Helper()
	if gotB, gotN, gotF := u.Read(cell, at, size); !bytes.Equal(gotB, b) || gotN != n || gotF != f {
		t.Errorf("Read(%d, %#x, %d): %v, %d, %d, want %v, %d, %d", cell, at, size, gotB, gotN, gotF, b, n, f)
	}
}

func wantWrite(t *testing.T, u *mmu.MMU, cell int, at uint32, b []byte, n int, f api.Fault) {
	t.Helper()
	if gotN, gotF := u.Write(cell, at, b); gotN != n || gotF != f {
		t.Errorf("Write(%d, %#x, %v): %d, %d, want %d, %d", cell, at, b, gotN, gotF, n, f)
	}
}

func wantFlush(t *testing.T, u *mmu.MMU, want int) {
	t.Helper()
	if n := u.Flush(); n != want {
		t.Errorf("Flush: %d, want %d", n, want)
	}
}

// state is all that a machine has beside its roots.
type state struct {
	m *memory.Memory
	l []api.Line
	s []api.Slot
}

func (x machine) state() state { return state{x.m.Clone(), x.c.Lines(), x.t.Slots()} }

// wantSame: nothing has changed.
func wantSame(t *testing.T, what string, x machine, was state) {
	t.Helper()
	wantMemory(t, what, x, was)
	wantLines(t, what, x, was.l...)
	wantSlots(t, what, x, was.s...)
}

func wantMemory(t *testing.T, what string, x machine, was state) {
	t.Helper()
	if !x.m.Equal(was.m) {
		t.Errorf("%s: the memory has changed", what)
	}
}

func wantLines(t *testing.T, what string, x machine, want ...api.Line) {
	t.Helper()
	if got := x.c.Lines(); !slices.Equal(got, want) {
		t.Errorf("%s: the cache has %v, want %v", what, got, want)
	}
}

func wantSlots(t *testing.T, what string, x machine, want ...api.Slot) {
	t.Helper()
	if got := x.t.Slots(); !slices.Equal(got, want) {
		t.Errorf("%s: the TLB has %v, want %v", what, got, want)
	}
}

func slot(cell int, page, frame uint32, p api.Perm) api.Slot {
	return api.Slot{Tag: api.Tag{Cell: cell, Page: page}, Mapping: api.Mapping{Frame: frame, Perm: p}}
}

// put puts into the TLB, the last of these last.
func (x machine) put(l ...api.Slot) {
	for _, s := range l {
		x.t.Put(s.Tag, s.Mapping)
	}
}

func TestExamples(t *testing.T) {
	first := func() machine {
		x := newMachine(t, 8, usual, 4)
		a, _ := arena.New(x.m, 8192, 2)
		s, _ := tables.New(a)
		s.Map(one(0x400000, 5, api.Read))
		wantRoot(t, x.u, 1, s.Root(), api.OK)
		setWord(t, x.m, 20480, 0xfedcba98)
		return x
	}
	x := first()
	wantLoad(t, x.u, 1, 0x400000, 4, 0xfedcba98, 36, api.FaultNone)
	wantLoad(t, x.u, 1, 0x400000, 4, 0xfedcba98, 1, api.FaultNone)
	wantLoad(t, x.u, 1, 0x400010, 4, 0, 12, api.FaultNone)
	wantStore(t, x.u, 1, 0x400000, 4, 1, 0, api.FaultDenied)

	x = first()
	wantLoad(t, x.u, 1, 0, 4, 0, 12, api.FaultUnmapped)
	wantLoad(t, x.u, 1, 0, 4, 0, 1, api.FaultUnmapped)
	wantLoad(t, x.u, 1, 2, 4, 0, 0, api.FaultAlign)
	wantLoad(t, x.u, 2, 0x400000, 4, 0, 0, api.FaultUnmapped)

	for _, behind := range []struct {
		l []api.Range
		f api.Fault
	}{{[]api.Range{one(0, 5, rw), one(pageSize, 6, rx)}, api.FaultDenied}, {[]api.Range{one(0, 5, rw)}, api.FaultUnmapped}} {
		x = build(t, usual, 4, behind.l)
		was := x.state()
		wantWrite(t, x.u, 1, 4092, []byte{1, 2, 3, 4, 5, 6, 7, 8}, 24+2, behind.f)
		wantMemory(t, "a Write that was refused", x, was)
	}
}

func TestErrorNumbers(t *testing.T) {
	if api.ErrMMUArg != 80 {
		t.Errorf("ErrMMUArg is %d", api.ErrMMUArg)
	}
	for i, a := range []api.Access{api.AccessRead, api.AccessWrite, api.AccessExec} {
		if int(a) != i+1 {
			t.Errorf("access %d is %d", i+1, a)
		}
	}
}

// TestNew: each of the three is wanted.
func TestNew(t *testing.T) {
	x := newMachine(t, 1, usual, 1)
	for i := range 8 {
		m, c, l := x.m, x.c, x.t
		if i&1 != 0 {
			m = nil
		}
		if i&2 != 0 {
			c = nil
		}
		if i&4 != 0 {
			l = nil
		}
		u, e := mmu.New(m, c, l)
		if i == 0 && (u == nil || e != api.OK) || i > 0 && (u != nil || e != api.ErrMMUArg) {
			t.Errorf("New, without those of %03b: %v, %d", i, u, e)
		}
	}
}

// TestNewLeaves: what it is made of stays what it is, with all that it has.
func TestNewLeaves(t *testing.T) {
	x := newMachine(t, 3, usual, 2)
	setWord(t, x.m, 4096, 7)
	x.c.Access(16, true)
	x.c.Access(0, false)
	x.put(slot(1, 2, 3, rw), slot(2, 2, 3, rx))
	was := x.state()
	if _, e := mmu.New(x.m, x.c, x.t); e != api.OK {
		t.Errorf("New: %d", e)
	}
	wantSame(t, "New", x, was)
}

// TestNoRoot: no cell has one at first, nor ever has what is no cell, whatever
// the TLB remembers of it.
func TestNoRoot(t *testing.T) {
	x := newMachine(t, 8, usual, 16)
	cells := append([]int{1, 2, 3, 4, 5, 6, 7, 8}, noCells...)
	for _, cell := range cells[:16] {
		x.put(slot(cell, 0, 1, 7))
	}
	was := x.state()
	for _, cell := range cells {
		for _, a := range append(noAccess, accesses...) {
			wantTranslate(t, x.u, cell, 0, a, 0, 0, api.FaultUnmapped)
		}
		wantFetch(t, x.u, cell, 0, 0, 0, api.FaultUnmapped)
		wantLoad(t, x.u, cell, 0, 1, 0, 0, api.FaultUnmapped)
		wantStore(t, x.u, cell, 0, 2, 9, 0, api.FaultUnmapped)
		wantRead(t, x.u, cell, 0, 8, nil, 0, api.FaultUnmapped)
		wantWrite(t, x.u, cell, 0, make([]byte, 8), 0, api.FaultUnmapped)
		wantRead(t, x.u, cell, 0, 0, nil, 0, api.FaultNone) // no word is asked for
		wantWrite(t, x.u, cell, 0, nil, 0, api.FaultNone)
	}
	wantSame(t, "accesses of cells without a root", x, was)
}

// TestRootArgs: what may be a root, and whose; a refusal changes nothing.
func TestRootArgs(t *testing.T) {
	x := build(t, usual, 4, []api.Range{one(0, 5, rw)})
	wantLoad(t, x.u, 1, 0, 4, 0, 36, api.FaultNone)
	x.put(slot(0, 1, 2, rw), slot(9, 1, 2, rw), slot(2, 0, 2, rw))
	was := x.state()
	for _, cell := range noCells {
		for _, table := range []uint32{0, pageSize, 40 * pageSize, 1} {
			wantRoot(t, x.u, cell, table, api.ErrMMUArg)
		}
		wantTranslate(t, x.u, cell, 0, api.AccessRead, 0, 0, api.FaultUnmapped)
	}
	for _, table := range []uint32{1, 2, 4, 8, 1024, 2048, 4092, 4095, 4097, 41*pageSize - 4, 1<<31 + 4, 1<<32 - 4, 1<<32 - 1} {
		for cell := range api.MaxCells {
			wantRoot(t, x.u, cell+1, table, api.ErrMMUArg)
		}
	}
	wantSame(t, "Root that is refused", x, was)
	wantLoad(t, x.u, 1, 0, 4, 0, 1, api.FaultNone)
	wantLoad(t, x.u, 2, 0, 4, 0, 0, api.FaultUnmapped)
}

// TestRoots: each cell may have its own, wherever that is.
func TestRoots(t *testing.T) {
	x := newMachine(t, 16, usual, 8)
	for _, table := range []uint32{0, pageSize, 2 * pageSize, 15 * pageSize, 16 * pageSize, 1 << 31, 1<<32 - pageSize} {
		wantRoot(t, x.u, 8, table, api.OK)
	}
	wantLoad(t, x.u, 8, 0, 4, 0, 0, api.FaultOutside)
	wantLoad(t, x.u, 8, 1<<32-4, 4, 0, 0, api.FaultOutside)
	wantRoot(t, x.u, 8, 0, api.OK)
	wantLoad(t, x.u, 8, 0, 4, 0, 12, api.FaultUnmapped)
	for cell := uint32(1); cell <= api.MaxCells; cell++ { // root and table of cell k is page k, its page 8 + k - 1
		wantRoot(t, x.u, int(cell), cell*pageSize, api.OK)
		setWord(t, x.m, cell*pageSize+4*16*cell, tableWord(cell))
		setWord(t, x.m, cell*pageSize, pageWord(rw, 7+cell))
	}
	for cell := uint32(1); cell <= api.MaxCells; cell++ {
		wantTranslate(t, x.u, int(cell), 16*cell*bigPage+3, api.AccessWrite, (7+cell)*pageSize+3, 24, api.FaultNone)
	}
	for cell := uint32(1); cell <= api.MaxCells; cell++ {
		wantTranslate(t, x.u, int(cell), 16*cell*bigPage+5, api.AccessRead, (7+cell)*pageSize+5, 0, api.FaultNone)
	}
}

// TestRootForgets: what the TLB remembers of the cell goes, the others' stays
// in its order; another root takes the place of the first one, also the same.
func TestRootForgets(t *testing.T) {
	x := newMachine(t, 8, usual, 8)
	setWord(t, x.m, 2*pageSize, tableWord(3))
	setWord(t, x.m, 3*pageSize, pageWord(rw, 5))
	setWord(t, x.m, 4*pageSize, tableWord(6))
	setWord(t, x.m, 6*pageSize, pageWord(api.Read, 7))
	wantRoot(t, x.u, 3, 2*pageSize, api.OK)
	wantTranslate(t, x.u, 3, 4, api.AccessWrite, 5*pageSize+4, 24, api.FaultNone)
	x.put(slot(2, 9, 1, rw), slot(3, 9, 1, rw), slot(4, 9, 1, rw), slot(3, 1<<20-1, 1, rw))
	x.t.Look(api.Tag{Cell: 2, Page: 9})
	lines := x.c.Lines()

	wantRoot(t, x.u, 3, 4*pageSize, api.OK)
	wantSlots(t, "Root", x, slot(2, 9, 1, rw), slot(4, 9, 1, rw))
	wantLines(t, "Root", x, lines...)
	wantTranslate(t, x.u, 3, 4, api.AccessRead, 7*pageSize+4, 24, api.FaultNone)
	wantTranslate(t, x.u, 3, 4, api.AccessWrite, 0, 0, api.FaultDenied)

	wantRoot(t, x.u, 3, 4*pageSize, api.OK)
	wantSlots(t, "Root once more", x, slot(2, 9, 1, rw), slot(4, 9, 1, rw))
	wantTranslate(t, x.u, 3, 4, api.AccessRead, 7*pageSize+4, 2, api.FaultNone)
}

// TestFlush: all goes, of all cells, whoever put it there; each set costs, and
// each line that is dirty. Roots and memory stay.
func TestFlush(t *testing.T) {
	x := build(t, api.Shape{Sets: 32, Ways: 8, Line: 64}, 8, []api.Range{one(0, 5, rw)}, []api.Range{one(0, 5, rx)})
	wantFlush(t, x.u, 32)
	wantStore(t, x.u, 1, 0, 4, 77, 36, api.FaultNone)
	wantStore(t, x.u, 1, 64, 4, 78, 12, api.FaultNone)
	wantFetch(t, x.u, 2, 0, 77, 12+12+1, api.FaultNone)
	x.put(slot(0, 1, 2, 3), slot(-5, 1, 2, 3))
	x.c.Access(5000, true)
	was := x.state()
	wantFlush(t, x.u, 32+3*8)
	wantLines(t, "Flush", x)
	wantSlots(t, "Flush", x)
	wantMemory(t, "Flush", x, was)
	wantFlush(t, x.u, 32)
	wantFetch(t, x.u, 2, 64, 78, 36, api.FaultNone)
	wantFlush(t, x.u, 32)

	for _, s := range []api.Shape{smallest, usual, {Sets: 256, Ways: 8, Line: 256}} {
		wantFlush(t, newMachine(t, 1, s, 1).u, s.Sets)
	}
}

// TestOthersToo: memory, cache and TLB stay what they are: what is done with
// them by themselves is done with what the MMU has, and two of one memory,
// cache and TLB have them together, but not their roots.
func TestOthersToo(t *testing.T) {
	x := build(t, usual, 4, []api.Range{one(0, 5, rw)})
	wantLoad(t, x.u, 1, 8, 4, 0, 36, api.FaultNone)
	setWord(t, x.m, 5*pageSize+8, 99)
	wantLoad(t, x.u, 1, 8, 4, 99, 1, api.FaultNone)
	x.c.Flush()
	wantLoad(t, x.u, 1, 8, 4, 99, 12, api.FaultNone)
	x.t.Flush()
	wantLoad(t, x.u, 1, 8, 4, 99, 12+12+1, api.FaultNone)
	x.c.Access(5*pageSize+512, false)
	wantStore(t, x.u, 1, 512, 4, 98, 1, api.FaultNone)
	wantWord(t, x.m, 5*pageSize+512, 98)
	if there, dirty := x.c.Holds(5*pageSize + 512); !there || !dirty {
		t.Errorf("a Store: the line is there: %v, dirty: %v", there, dirty)
	}

	other, _ := mmu.New(x.m, x.c, x.t)
	wantLoad(t, other, 1, 8, 4, 0, 0, api.FaultUnmapped)
	wantRoot(t, other, 2, 40*pageSize, api.OK)
	wantLoad(t, other, 2, 8, 4, 99, 1+1+1, api.FaultNone)
	wantLoad(t, x.u, 2, 8, 4, 0, 0, api.FaultUnmapped)
	wantFlush(t, other, 16+8)
	wantLoad(t, x.u, 1, 8, 4, 99, 36, api.FaultNone)
	wantRoot(t, other, 1, 41*pageSize, api.OK)
	wantSlots(t, "Root by another one", x)
	wantLoad(t, x.u, 1, 8, 4, 99, 3, api.FaultNone)
}
