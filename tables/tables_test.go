package tables_test

import (
	"slices"
	"testing"

	"cloister/api"
	"cloister/arena"
	"cloister/memory"
	"cloister/tables"
)

const (
	pageSize  = 4096
	mostPages = 4096
	perTable  = 1024
	bigPage   = pageSize * perTable // what one table tells
	tableBits = 0x11                // of the word of a table
)

var (
	perms    = []api.Perm{1, 3, 4, 5, 7}
	accesses = []api.Access{api.AccessRead, api.AccessWrite, api.AccessExec}
)

func newMemory(t *testing.T, pages int) *memory.Memory {
	t.Helper()
	m, e := memory.New(pages)
	if m == nil || e != api.OK {
		t.Fatalf("memory.New(%d) = %v, %d", pages, m, e)
	}
	return m
}

func newArena(t *testing.T, m *memory.Memory, base uint32, pages int) *arena.Arena {
	t.Helper()
	a, e := arena.New(m, base, pages)
	if a == nil || e != api.OK {
		t.Fatalf("arena.New(%d, %d) = %v, %d", base, pages, a, e)
	}
	return a
}

func newSpace(t *testing.T, a *arena.Arena) *tables.Space {
	t.Helper()
	s, e := tables.New(a)
	if s == nil || e != api.OK {
		t.Fatalf("New = %v, %d", s, e)
	}
	return s
}

// build is a space whose arena has so many pages from the memory's page
// number 8 on, of 64; none of its bytes is 0 ahead of that.
func build(t *testing.T, pages int) (*memory.Memory, *arena.Arena, *tables.Space) {
	t.Helper()
	m := newMemory(t, 64)
	m.Fill(0, 64*pageSize, 0xa5)
	a := newArena(t, m, 8*pageSize, pages)
	return m, a, newSpace(t, a)
}

func content(t *testing.T, m *memory.Memory) []byte {
	t.Helper()
	b, e := m.Read(0, m.Pages()*pageSize)
	if e != api.OK {
		t.Fatalf("Read of all: error %d", e)
	}
	return b
}

func setWord(t *testing.T, m *memory.Memory, at, w uint32) {
	t.Helper()
	if e := m.Store(at, 4, w); e != api.OK {
		t.Fatalf("Store at %x: error %d", at, e)
	}
}

func wantWord(t *testing.T, m *memory.Memory, at, want uint32) {
	t.Helper()
	if w, e := m.Load(at, 4); w != want || e != api.OK {
		t.Errorf("the word at %x is %08x, error %d, want %08x", at, w, e, want)
	}
}

func wantArena(t *testing.T, what string, a *arena.Arena, left, taken int) {
	t.Helper()
	if a.Left() != left || a.Taken() != taken {
		t.Errorf("%s: %d pages are left, %d taken, want %d, %d", what, a.Left(), a.Taken(), left, taken)
	}
}

func pageWord(p api.Perm, frame uint32) uint32 { return frame<<12 | uint32(p)<<1 | 1 }

func tableWord(frame uint32) uint32 { return frame<<12 | tableBits }

// one is a range of one page.
func one(virtual, physical uint32, p api.Perm) api.Range {
	return api.Range{Virtual: virtual, Physical: physical, Pages: 1, Perm: p}
}

func some(virtual, physical uint32, pages int, p api.Perm) api.Range {
	return api.Range{Virtual: virtual, Physical: physical, Pages: pages, Perm: p}
}

func wantMapped(t *testing.T, s *tables.Space, l ...api.Range) {
	t.Helper()
	if e := s.Map(l...); e != api.OK {
		t.Fatalf("Map(%x): error %d", l, e)
	}
}

// wantRefused: Map answers that error, and changes neither a byte nor the
// arena.
func wantRefused(t *testing.T, a *arena.Arena, s *tables.Space, want api.Errno, l ...api.Range) {
	t.Helper()
	m := a.Memory()
	before, left, taken, sealed, root := m.Clone(), a.Left(), a.Taken(), a.Sealed(), s.Root()
	if e := s.Map(l...); e != want {
		t.Errorf("Map(%x) = %d, want %d", l, e, want)
	}
	if !before.Equal(m) {
		t.Errorf("Map(%x) was refused, and has written", l)
	}
	if a.Left() != left || a.Taken() != taken || a.Sealed() != sealed || s.Root() != root {
		t.Errorf("Map(%x) was refused, and the arena has %d pages left, %d taken, sealed %v", l, a.Left(), a.Taken(), a.Sealed())
	}
}

func wantWalk(t *testing.T, m *memory.Memory, root, virtual uint32, a api.Access, at uint32, f api.Fault, steps ...api.WalkStep) {
	t.Helper()
	gotAt, gotSteps, got := tables.Walk(m, root, virtual, a)
	if gotAt != at || got != f || !slices.Equal(gotSteps, steps) {
		t.Errorf("Walk(%x, %x, %d) = %x, %x, fault %d, want %x, %x, fault %d", root, virtual, a, gotAt, gotSteps, got, at, steps, f)
	}
}

// spoil writes over a list, and over its spare room.
func spoil[T any](l []T) {
	clear(l[:cap(l)])
}

func TestExamples(t *testing.T) {
	m := newMemory(t, 8)
	s := newSpace(t, newArena(t, m, 8192, 2))
	if s.Root() != 8192 {
		t.Errorf("Root() = %d, want 8192", s.Root())
	}
	wantMapped(t, s, one(4194304, 20480, api.Read))
	wantWord(t, m, 8196, 0x00003011)
	wantWord(t, m, 12288, 0x00005003)
	first, second := api.WalkStep{At: 8196, Word: 0x00003011}, api.WalkStep{At: 12288, Word: 0x00005003}
	wantWalk(t, m, 8192, 4194308, api.AccessRead, 20484, api.FaultNone, first, second)
	wantWalk(t, m, 8192, 4194308, api.AccessWrite, 0, api.FaultDenied, first, second)

	wantWalk(t, m, 8192, 0, api.AccessRead, 0, api.FaultUnmapped, api.WalkStep{At: 8192})

	m = newMemory(t, 8)
	a := newArena(t, m, 8192, 3)
	s = newSpace(t, a)
	wantMapped(t, s, some(4190208, 0, 2, api.Read))
	wantArena(t, "two tables", a, 0, 3)
	wantWord(t, m, 8192, 0x00003011)
	wantWord(t, m, 8196, 0x00004011)
	wantWord(t, m, 12288+4092, 0x00000003)
	wantWord(t, m, 16384, 0x00001003)
}

func TestErrorNumbers(t *testing.T) {
	if api.ErrTablesArg != 70 || api.ErrTablesThere != 71 || api.ErrTablesFull != 72 || api.ErrTablesSealed != 73 {
		t.Errorf("the errors are %d, %d, %d, %d, want 70 to 73", api.ErrTablesArg, api.ErrTablesThere, api.ErrTablesFull, api.ErrTablesSealed)
	}
}

// TestNew: a root is the arena's next page, and nothing else is changed.
func TestNew(t *testing.T) {
	m := newMemory(t, 6)
	m.Fill(0, 6*pageSize, 0xee)
	a := newArena(t, m, 2*pageSize, 3)
	all := content(t, m)
	for i := range uint32(3) {
		s := newSpace(t, a)
		root := (2 + i) * pageSize
		if s.Root() != root {
			t.Errorf("Root() = %d, want %d", s.Root(), root)
		}
		wantArena(t, "behind New", a, 2-int(i), 1+int(i))
		clear(all[root : root+pageSize])
		if !slices.Equal(content(t, m), all) {
			t.Errorf("New of the root %d has written elsewhere, or has left something there", root)
		}
		for range tables.All(m, root) {
			t.Errorf("something is mapped in a new one")
		}
	}
}

func wantNone(t *testing.T, what string, a *arena.Arena, want api.Errno) {
	t.Helper()
	if s, e := tables.New(a); s != nil || e != want {
		t.Errorf("New of %s = %v, %d, want nil, %d", what, s, e, want)
	}
}

func TestNewRefused(t *testing.T) {
	wantNone(t, "no arena", nil, api.ErrTablesArg)

	m := newMemory(t, 4)
	m.Fill(0, 4*pageSize, 7)
	before := m.Clone()
	full, empty := newArena(t, m, 0, 1), newArena(t, m, 4*pageSize, 0)
	newSpace(t, full)
	before.Fill(0, pageSize, 0)
	wantNone(t, "a full arena", full, api.ErrTablesFull)
	wantNone(t, "an arena of no pages", empty, api.ErrTablesFull)

	sealed := newArena(t, m, pageSize, 2)
	sealed.Seal()
	wantNone(t, "a sealed arena", sealed, api.ErrTablesSealed)
	full.Seal()
	empty.Seal()
	wantNone(t, "a full arena that is sealed", full, api.ErrTablesSealed)
	wantNone(t, "an arena of no pages that is sealed", empty, api.ErrTablesSealed)

	wantArena(t, "behind New that was refused", full, 0, 1)
	wantArena(t, "behind New that was refused", empty, 0, 0)
	wantArena(t, "behind New that was refused", sealed, 2, 0)
	if !before.Equal(m) {
		t.Error("New was refused, and has written")
	}
}

// TestRoot: it stays what it was, whatever is done.
func TestRoot(t *testing.T) {
	_, a, s := build(t, 3)
	wantMapped(t, s, one(0, 0, api.Read))
	s.Map(one(0, 0, api.Read))
	other := newSpace(t, a)
	a.Seal()
	if s.Root() != 8*pageSize || other.Root() != 10*pageSize {
		t.Errorf("the roots are %x, %x", s.Root(), other.Root())
	}
}

// TestSpacesApart: two of one arena, and two of two memories.
func TestSpacesApart(t *testing.T) {
	m, a, s := build(t, 6)
	other := newSpace(t, a)
	wantMapped(t, s, one(bigPage, 0, api.Read))
	wantMapped(t, other, one(bigPage, pageSize, api.Read|api.Write))
	wantWord(t, m, s.Root()+4, tableWord(10))
	wantWord(t, m, other.Root()+4, tableWord(11))
	if at, _, f := tables.Walk(m, s.Root(), bigPage, api.AccessRead); at != 0 || f != api.FaultNone {
		t.Errorf("the one walks to %x, fault %d", at, f)
	}
	if at, _, f := tables.Walk(m, other.Root(), bigPage, api.AccessRead); at != pageSize || f != api.FaultNone {
		t.Errorf("the other one walks to %x, fault %d", at, f)
	}

	n, _, third := build(t, 6)
	before := m.Clone()
	wantMapped(t, third, some(0, 0, 9, api.Exec))
	if !before.Equal(m) {
		t.Error("one of another memory has written here")
	}
	if l := tables.Ranges(n, s.Root()); !slices.Equal(l, []api.Range{some(0, 0, 9, api.Exec)}) {
		t.Errorf("Ranges of the other memory: %x", l)
	}
}
