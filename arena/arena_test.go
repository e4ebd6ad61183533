package arena_test

import (
	"bytes"
	"math"
	"testing"

	"cloister/api"
	"cloister/arena"
	"cloister/memory"
)

const (
	pageSize  = 4096
	mostPages = 4096
)

func newMemory(t *testing.T, pages int) *memory.Memory {
	t.Helper()
	m, e := memory.New(pages)
	if m == nil || e != api.OK {
		t.Fatalf("memory.New(%d) = %v, %d", pages, m, e)
	}
	return m
}

// written is a memory none of whose bytes is 0, nor like its neighbours.
func written(t *testing.T, pages int) *memory.Memory {
	t.Helper()
	m := newMemory(t, pages)
	b := make([]byte, pages*pageSize)
	for i := range b {
		b[i] = byte(1 + i%251)
	}
	if e := m.Write(0, b); e != api.OK {
		t.Fatalf("Write of %d pages: error %d", pages, e)
	}
	return m
}

func newArena(t *testing.T, m *memory.Memory, base uint32, pages int) *arena.Arena {
	t.Helper()
	a, e := arena.New(m, base, pages)
	if a == nil || e != api.OK {
		t.Fatalf("New(%d, %d) = %v, %d", base, pages, a, e)
	}
	return a
}

// content is all bytes of a memory.
func content(t *testing.T, m *memory.Memory) []byte {
	t.Helper()
	b, e := m.Read(0, m.Pages()*pageSize)
	if e != api.OK {
		t.Fatalf("Read of all: error %d", e)
	}
	return b
}

func wantContent(t *testing.T, what string, m *memory.Memory, want []byte) {
	t.Helper()
	got := content(t, m)
	if len(got) != len(want) {
		t.Fatalf("%s: %d bytes, want %d", what, len(got), len(want))
	}
	for i := range got {
		if got[i] != want[i] {
			t.Fatalf("%s: byte %d is %d, want %d", what, i, got[i], want[i])
		}
	}
}

func wantState(t *testing.T, what string, a *arena.Arena, left, taken int, sealed bool) {
	t.Helper()
	if a.Left() != left || a.Taken() != taken || a.Sealed() != sealed {
		t.Errorf("%s: %d left, %d taken, sealed %v, want %d, %d, %v", what, a.Left(), a.Taken(), a.Sealed(), left, taken, sealed)
	}
}

// wantTake takes a page, and looks at what has become of the memory: this page
// is all 0, and nothing else is changed.
func wantTake(t *testing.T, a *arena.Arena, want uint32) {
	t.Helper()
	m, left, taken := a.Memory(), a.Left(), a.Taken()
	all := content(t, m)
	at, e := a.Take()
	if at != want || e != api.OK {
		t.Fatalf("Take() = %d, %d, want %d", at, e, want)
	}
	clear(all[want : want+pageSize])
	wantContent(t, "behind a Take", m, all)
	wantState(t, "behind a Take", a, left-1, taken+1, false)
}

// wantRefused: no page is taken, and nothing is changed.
func wantRefused(t *testing.T, a *arena.Arena, want api.Errno) {
	t.Helper()
	m, left, taken, sealed := a.Memory(), a.Left(), a.Taken(), a.Sealed()
	before := content(t, m)
	if at, e := a.Take(); at != 0 || e != want {
		t.Errorf("Take() = %d, %d, want 0, %d", at, e, want)
	}
	wantContent(t, "behind a Take that was refused", m, before)
	wantState(t, "behind a Take that was refused", a, left, taken, sealed)
}

func TestExamples(t *testing.T) {
	m := newMemory(t, 4)
	a := newArena(t, m, 8192, 2)
	wantTake(t, a, 8192)
	wantTake(t, a, 12288)
	wantRefused(t, a, api.ErrArenaFull)
	wantState(t, "example 1", a, 0, 2, false)

	for _, c := range []struct {
		base  uint32
		pages int
		e     api.Errno
	}{{8192, 3, api.ErrArenaArg}, {16384, 0, api.OK}, {4097, 1, api.ErrArenaArg}} {
		if a, e := arena.New(m, c.base, c.pages); e != c.e || (a == nil) != (c.e != api.OK) {
			t.Errorf("example 2: New(%d, %d) = %v, %d, want error %d", c.base, c.pages, a, e, c.e)
		}
	}

	a = newArena(t, m, 8192, 2)
	wantTake(t, a, 8192)
	a.Seal()
	wantRefused(t, a, api.ErrArenaSealed)
	wantState(t, "example 3", a, 1, 1, true)
}

func TestErrorNumbers(t *testing.T) {
	if api.ErrArenaArg != 60 || api.ErrArenaFull != 61 || api.ErrArenaSealed != 62 {
		t.Errorf("the errors are %d, %d, %d, want 60, 61, 62", api.ErrArenaArg, api.ErrArenaFull, api.ErrArenaSealed)
	}
}

// bounds are regions of a memory of four pages, and whether they may be.
var bounds = []struct {
	base  uint32
	pages int
	well  bool
}{
	{0, 0, true}, {0, 1, true}, {0, 3, true}, {0, 4, true},
	{4096, 0, true}, {4096, 1, true}, {4096, 2, true}, {4096, 3, true},
	{8192, 0, true}, {8192, 2, true}, {12288, 0, true}, {12288, 1, true},
	{16384, 0, true}, // at the end

	{0, 5, false}, {4096, 4, false}, {8192, 3, false}, {12288, 2, false}, {16384, 1, false}, // beyond it
	{0, 4096, false}, {4096, 16384, false},
	{20480, 0, false}, {20480, 1, false}, {1 << 24, 0, false}, {1 << 31, 0, false}, {1<<32 - 4096, 0, false}, // begun beyond it
	{1 << 31, 1, false}, {1<<32 - 4096, 1, false}, {1<<32 - 4096, 2, false}, {1<<32 - 8192, 6, false}, // around the end of addresses

	{1, 1, false}, {2, 0, false}, {4, 1, false}, {2048, 1, false}, {4095, 1, false}, {4097, 1, false}, {8191, 0, false}, // no page's address
	{12289, 0, false}, {16383, 0, false}, {16385, 0, false}, {1<<32 - 1, 0, false}, {1<<32 - 1, 1, false},

	{0, -1, false}, {4096, -1, false}, {8192, -2, false}, {16384, -1, false}, {20480, -1, false}, {20480, -2, false}, // below 0
	{0, -4096, false}, {0, -1 << 31, false}, {0, -1 << 32, false}, {1<<32 - 4096, -1 << 20, false},
	{0, math.MinInt, false}, {16384, math.MinInt, false}, {1, math.MinInt, false}, {0, math.MinInt + 4, false},

	{0, 1 << 20, false}, {4096, 1<<20 - 1, false}, {0, 1<<20 + 1, false}, {4096, 1<<20 + 2, false}, // bytes that pass 32 bits
	{0, 1 << 31, false}, {0, 1 << 32, false}, {0, 1<<32 + 1, false}, {4096, 1<<32 - 1, false},
	{0, 1 << 51, false}, {0, 1 << 52, false}, {0, 1<<52 + 1, false}, {4096, 1<<52 - 1, false}, {4096, 1<<52 + 1, false}, // that pass 64 bits
	{0, 1 << 62, false}, {0, 1<<62 + 1, false}, {16384, 1 << 52, false},
	{0, math.MaxInt, false}, {4096, math.MaxInt, false}, {16384, math.MaxInt, false}, {1<<32 - 4096, math.MaxInt, false}, {1, math.MaxInt, false},
}

func TestNewAtBounds(t *testing.T) {
	m := written(t, 4)
	before := content(t, m)
	for _, c := range bounds {
		a, e := arena.New(m, c.base, c.pages)
		if !c.well {
			if a != nil || e != api.ErrArenaArg {
				t.Errorf("New(%d, %d) = %v, %d, want nil, %d", c.base, c.pages, a, e, api.ErrArenaArg)
			}
			continue
		}
		if a == nil || e != api.OK {
			t.Errorf("New(%d, %d) = %v, %d", c.base, c.pages, a, e)
			continue
		}
		wantState(t, "a new one", a, c.pages, 0, false)
	}
	wantContent(t, "behind New", m, before)
}

// TestNewOfNoMemory: at whatever region.
func TestNewOfNoMemory(t *testing.T) {
	for _, c := range bounds {
		if a, e := arena.New(nil, c.base, c.pages); a != nil || e != api.ErrArenaArg {
			t.Errorf("New(nil, %d, %d) = %v, %d, want nil, %d", c.base, c.pages, a, e, api.ErrArenaArg)
		}
	}
}

// TestNewOfEachRegion: all regions from pages of a memory on, and next to it.
func TestNewOfEachRegion(t *testing.T) {
	for _, size := range []int{1, 2, 3, 8, 17} {
		m := newMemory(t, size)
		for base := range size + 3 {
			for pages := -2; pages <= size+3; pages++ {
				well := pages >= 0 && base+pages <= size
				a, e := arena.New(m, uint32(base*pageSize), pages)
				if (a != nil) != well || (e == api.OK) != well || !well && e != api.ErrArenaArg {
					t.Errorf("of %d pages: New(%d, %d): error %d", size, base*pageSize, pages, e)
				}
			}
		}
	}
}

// TestNewOfNoPageAddress: each address of a page but its first.
func TestNewOfNoPageAddress(t *testing.T) {
	m := newMemory(t, 4)
	for at := uint32(4097); at < 8192; at++ {
		for _, pages := range []int{0, 1} {
			if a, e := arena.New(m, at, pages); a != nil || e != api.ErrArenaArg {
				t.Fatalf("New(%d, %d) = %v, %d, want nil, %d", at, pages, a, e, api.ErrArenaArg)
			}
		}
	}
}

// TestNewOfTheGreatest: the greatest memory, as a whole, at its end and beyond.
func TestNewOfTheGreatest(t *testing.T) {
	m := newMemory(t, mostPages)
	const end = mostPages * pageSize
	wantState(t, "all of it", newArena(t, m, 0, mostPages), mostPages, 0, false)
	wantState(t, "its last page", newArena(t, m, end-pageSize, 1), 1, 0, false)
	wantState(t, "none at its end", newArena(t, m, end, 0), 0, 0, false)
	for _, c := range []struct {
		base  uint32
		pages int
	}{{0, mostPages + 1}, {pageSize, mostPages}, {end - pageSize, 2}, {end, 1}, {end + pageSize, 0}} {
		if a, e := arena.New(m, c.base, c.pages); a != nil || e != api.ErrArenaArg {
			t.Errorf("New(%d, %d) = %v, %d, want nil, %d", c.base, c.pages, a, e, api.ErrArenaArg)
		}
	}
}

// TestMemory: it is the one that was handed in, not one like it.
func TestMemory(t *testing.T) {
	m := written(t, 3)
	n := m.Clone()
	a, b := newArena(t, m, 4096, 2), newArena(t, n, 4096, 2)
	for i, do := range []func(){func() {}, func() { a.Take() }, func() { a.Take() }, func() { a.Take() }, a.Seal, func() { a.Take() }} {
		do()
		if a.Memory() != m || b.Memory() != n {
			t.Errorf("behind call %d: Memory is another one", i)
		}
	}
}

// TestMemoryGoesOn: others write into it, and an arena does not mind.
func TestMemoryGoesOn(t *testing.T) {
	m := written(t, 3)
	a := newArena(t, m, 4096, 2)
	m.Fill(0, 3*pageSize, 5)
	wantContent(t, "filled behind New", a.Memory(), bytes.Repeat([]byte{5}, 3*pageSize))
	wantState(t, "filled behind New", a, 2, 0, false)
	wantTake(t, a, 4096)
	m.Fill(0, 3*pageSize, 6)
	wantContent(t, "filled behind Take", a.Memory(), bytes.Repeat([]byte{6}, 3*pageSize))
	wantState(t, "filled behind Take", a, 1, 1, false)
}
