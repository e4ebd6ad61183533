package boot_test

import (
	"bytes"
	"math/rand"
	"slices"
	"testing"

	"cloister/api"
	"cloister/boot"
	"cloister/cache"
	"cloister/memory"
	"cloister/mmu"
	"cloister/tables"
	"cloister/tlb"
)

// TestTablesWordByWord: all that is not 0 in a memory into which nothing was
// laid.
func TestTablesWordByWord(t *testing.T) {
	m := booted(t, good())
	if !slices.Equal(m.Roots, []uint32{0x5000, 0x8000, 0xb000}) {
		t.Errorf("roots %#x", m.Roots)
	}
	want, _ := memory.New(48)
	for at, w := range map[uint32]uint32{
		0x5000: 0x6011, 0x5004: 0x7011, // the second table comes with the second range's second page
		0x6004: 0x000b, 0x6008: 0x100b, 0x6ffc: 0x28007, 0x7000: 0x29007, 0x7004: 0x2a007, 0x6ff8: 0x1e003,
		0x8ffc: 0x9011, 0x8000: 0xa011, // by the order of ranges, not of addresses
		0x9ffc: 0x2009, 0xa004: 0x300f, 0xa008: 0x400f,
		0xb800: 0xc011, 0xb7fc: 0xd011,
		0xc000: 0x1500b, 0xc004: 0x1600b, 0xc008: 0x1700b, 0xc00c: 0x1800b, 0xdff8: 0x2d007, 0xdffc: 0x2e007,
	} {
		if e := want.Store(at, 4, w); e != api.OK {
			t.Fatalf("Store at %#x: %d", at, e)
		}
	}
	if !m.Memory.Equal(want) {
		for number, b := range m.Memory.All() {
			if also, _ := want.Read(number*page, page); !bytes.Equal(b, also) {
				t.Errorf("page %d is another one", number)
			}
		}
		t.Error("the memory is another one")
	}
}

// modelTables is the memory with the tables of a configuration, byte by byte,
// and the roots.
func modelTables(g api.Config) ([]byte, []uint32) {
	flat, roots, next := make([]byte, g.Pages*page), []uint32(nil), g.OwnBase
	put := func(at, w uint32) {
		for i := range 4 {
			flat[int(at)+i] = byte(w >> (8 * i))
		}
	}
	take := func() uint32 {
		next += page
		return next - page
	}
	for _, c := range g.Cells {
		root, second := take(), map[uint32]uint32{}
		roots = append(roots, root)
		for _, r := range c.Ranges {
			for i := range uint32(r.Pages) {
				first, index := (r.Virtual+i*page)>>22, (r.Virtual+i*page)>>12&1023
				if _, there := second[first]; !there {
					second[first] = take()
					put(root+4*first, second[first]|0x11)
				}
				put(second[first]+4*index, r.Physical+i*page|uint32(r.Perm)<<1|1)
			}
		}
	}
	return flat, roots
}

func wantFlat(t testing.TB, m *boot.Machine, flat []byte) {
	t.Helper()
	got, e := m.Memory.Read(0, len(flat))
	if e != api.OK || m.Memory.Pages() != len(flat)/page {
		t.Fatalf("%d pages, want %d", m.Memory.Pages(), len(flat)/page)
	}
	for i := range flat {
		if got[i] != flat[i] {
			t.Fatalf("the byte at %#x is %#x, want %#x", i, got[i], flat[i])
		}
	}
}

func wantTables(t testing.TB, g api.Config) {
	t.Helper()
	flat, roots := modelTables(g)
	m := booted(t, g)
	wantFlat(t, m, flat)
	if !slices.Equal(m.Roots, roots) {
		t.Fatalf("roots %#x, want %#x", m.Roots, roots)
	}
}

func TestTablesAsTheModel(t *testing.T) {
	wantTables(t, good())
	for n := 1; n <= 8; n++ {
		wantTables(t, crowd(n))
	}
	wantTables(t, great())
	random := rand.New(rand.NewSource(191))
	for range 150 {
		wantTables(t, anyValid(random))
	}
}

// great has as much memory as may be, nearly all of it a cell's, by four
// tables; the monitor's pages are the last ones, and just enough.
func great() api.Config {
	g := crowd(1)
	g.Pages, g.OwnBase, g.OwnPages = api.MaxPages, (api.MaxPages-6)*page, 6
	g.Cells[0].Entry = 0x400000 - 10*page
	g.Cells[0].Ranges = []api.Range{{Virtual: 0x400000 - 10*page, Physical: 0, Pages: api.MaxPages - 6, Perm: rwx}}
	return g
}

// TestGreat: also where nothing is left over.
func TestGreat(t *testing.T) {
	g := great()
	m := booted(t, g)
	if n := tables.Need(g.Cells[0].Ranges...); n != 6 {
		t.Fatalf("it needs %d pages", n)
	}
	if got := tables.Ranges(m.Memory, m.Roots[0]); !slices.Equal(got, g.Cells[0].Ranges) {
		t.Errorf("ranges %+v", got)
	}
	all := bytes.Repeat([]byte{7}, (api.MaxPages-6)*page)
	m = booted(t, g, api.Load{Cell: 1, At: 0x400000 - 10*page, Data: all})
	if b, e := m.Memory.Read(0, len(all)); !bytes.Equal(b, all) || e != api.OK {
		t.Error("not all of it was laid down")
	}
	wantRefused(t, "a byte more", blobOf(t, g), api.ErrBootArg, api.Load{Cell: 1, At: 0x400000 - 10*page, Data: append(all, 7)})
}

// TestTranslate: the MMU knows each cell's root, and no other cell.
func TestTranslate(t *testing.T) {
	m := booted(t, good())
	for _, c := range []struct {
		cell int
		at   uint32
		a    api.Access
		to   uint32
		f    api.Fault
	}{
		{1, 0x1ffc, api.AccessExec, 0x0ffc, api.FaultNone},
		{1, 0x1ffc, api.AccessWrite, 0, api.FaultDenied},
		{1, 0x400004, api.AccessWrite, 41*page + 4, api.FaultNone},
		{1, 0x3fefff, api.AccessRead, 30*page + 0xfff, api.FaultNone},
		{1, 0x80000000, api.AccessRead, 0, api.FaultUnmapped},
		{2, 0x1ffc, api.AccessWrite, 0x3ffc, api.FaultNone},
		{2, 0xffffffff, api.AccessExec, 0x2fff, api.FaultNone},
		{2, 0xffffffff, api.AccessRead, 0, api.FaultDenied},
		{2, 0x3ff000, api.AccessRead, 0, api.FaultUnmapped},
		{3, 0x7fffffff, api.AccessWrite, 46*page + 0xfff, api.FaultNone},
		{3, 0x80003fff, api.AccessExec, 24*page + 0xfff, api.FaultNone},
		{3, 0x80004000, api.AccessExec, 0, api.FaultUnmapped},
		{3, 0x1ffc, api.AccessRead, 0, api.FaultUnmapped},
	} {
		if to, _, f := m.MMU.Translate(c.cell, c.at, c.a); to != c.to || f != c.f {
			t.Errorf("cell %d at %#x, access %d: %#x, %d, want %#x, %d", c.cell, c.at, c.a, to, f, c.to, c.f)
		}
	}
	for _, cell := range []int{-1, 0, 4, 5, 8, 9} {
		if to, n, f := m.MMU.Translate(cell, 0x1000, api.AccessRead); to != 0 || n != 0 || f != api.FaultUnmapped {
			t.Errorf("cell %d: %#x, %d, %d", cell, to, n, f)
		}
	}
}

// TestOneMemory: that of the MMU is the machine's.
func TestOneMemory(t *testing.T) {
	m := booted(t, good())
	if _, f := m.MMU.Store(2, 0x1010, 4, 0x04030201); f != api.FaultNone {
		t.Fatalf("fault %d", f)
	}
	wantBytes(t, m, 3*page+16, 1, 2, 3, 4)
	m.Memory.Store(40*page, 4, 99)
	if v, _, f := m.MMU.Load(1, 0x3ff000, 4); v != 99 || f != api.FaultNone {
		t.Errorf("%d, %d", v, f)
	}
}

// ownMMU is one that was made by hand, of tables as a machine has them.
func ownMMU(t testing.TB, g api.Config, m *boot.Machine) *mmu.MMU {
	t.Helper()
	c, e := cache.New(g.Shape)
	if e != api.OK {
		t.Fatalf("cache.New = %d", e)
	}
	b, e := tlb.New(g.Slots)
	if e != api.OK {
		t.Fatalf("tlb.New = %d", e)
	}
	u, e := mmu.New(m.Memory.Clone(), c, b)
	if e != api.OK {
		t.Fatalf("mmu.New = %d", e)
	}
	for i, root := range m.Roots {
		u.Root(i+1, root)
	}
	return u
}

// wantSameCosts: do two tell the same of whatever is accessed, cycles too?
func wantSameCosts(t testing.TB, random *rand.Rand, g api.Config, one, two *mmu.MMU) {
	t.Helper()
	for range 400 {
		k := random.Intn(len(g.Cells))
		r := pick(random, g.Cells[k].Ranges)
		at := r.Virtual + 4*uint32(random.Intn(1024*r.Pages)) + page*uint32(random.Intn(2))
		switch random.Intn(3) {
		case 0:
			v, n, f := one.Load(k+1, at, 4)
			if w, o, h := two.Load(k+1, at, 4); v != w || n != o || f != h {
				t.Fatalf("Load: %d, %d, %d; %d, %d, %d", v, n, f, w, o, h)
			}
		case 1:
			n, f := one.Store(k+1, at, 4, at)
			if o, h := two.Store(k+1, at, 4, at); n != o || f != h {
				t.Fatalf("Store: %d, %d; %d, %d", n, f, o, h)
			}
		case 2:
			v, n, f := one.Fetch(k+1, at)
			if w, o, h := two.Fetch(k+1, at); v != w || n != o || f != h {
				t.Fatalf("Fetch: %d, %d, %d; %d, %d, %d", v, n, f, w, o, h)
			}
		}
	}
	if n, o := one.Flush(), two.Flush(); n != o {
		t.Fatalf("Flush: %d; %d", n, o)
	}
}

// TestCosts: the cache is of the configuration's Shape, the TLB has its Slots,
// and both are empty.
func TestCosts(t *testing.T) {
	random := rand.New(rand.NewSource(192))
	for range 100 {
		g := anyValid(random)
		m := booted(t, g)
		wantSameCosts(t, random, g, m.MMU, ownMMU(t, g, m))
	}
}

// TestSlots: likewise, by hand: two pages whose entries stand in one line.
func TestSlots(t *testing.T) {
	g := good()
	g.Shape = api.Shape{Sets: 4, Ways: 8, Line: 16}
	for slots, want := range map[int][]int{1: {36, 14, 3, 3}, 2: {36, 14, 1, 1}} {
		g.Slots = slots
		m := booted(t, g)
		for i, at := range []uint32{0x1000, 0x2100, 0x1000, 0x2100} {
			if _, n, f := m.MMU.Load(1, at, 4); n != want[i] || f != api.FaultNone {
				t.Errorf("%d slots, access %d: %d cycles, fault %d, want %d", slots, i, n, f, want[i])
			}
		}
	}
}

// TestShapes: an empty cache is flushed in as many cycles as it has sets; a
// line that is written to stays there as long as its set has room.
func TestShapes(t *testing.T) {
	for _, s := range []api.Shape{{Sets: 1, Ways: 1, Line: 16}, {Sets: 256, Ways: 8, Line: 256}, {Sets: 4, Ways: 3, Line: 64}} {
		g := crowd(1)
		g.Shape, g.Slots, g.Major = s, 64, 1000000
		g.Windows[0].Length = 100000
		g.Cells[0].Ranges[0].Perm = rwx
		m := booted(t, g)
		if n := m.MMU.Flush(); n != s.Sets {
			t.Errorf("%+v: flushed in %d cycles", s, n)
		}
		for at := uint32(0x1000); at < 0x2000; at += 4 {
			m.MMU.Store(1, at, 4, at)
		}
		if n, most := m.MMU.Flush(), page/s.Line; n != s.Sets+8*min(most, s.Sets*s.Ways) {
			t.Errorf("%+v: flushed in %d cycles behind %d lines", s, n, most)
		}
	}
}
