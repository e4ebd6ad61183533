package memory_test

import (
	"bytes"
	"math"
	"runtime"
	"testing"

	"cloister/api"
	"cloister/memory"
)

const pageSize = 4096

func newMemory(t *testing.T, pages int) *memory.Memory {
	t.Helper()
	m, e := memory.New(pages)
	if m == nil || e != api.OK {
		t.Fatalf("New(%d) = %v, %d", pages, m, e)
	}
	return m
}

// counting is a memory none of whose bytes is like its neighbours, nor like
// those of another page at the same place.
func counting(t *testing.T, pages int) *memory.Memory {
	t.Helper()
	m := newMemory(t, pages)
	b := make([]byte, pages*pageSize)
	for i := range b {
		b[i] = byte(1 + i%251)
	}
	wantErrno(t, "Write", m.Write(0, b), api.OK)
	return m
}

func wantErrno(t *testing.T, what string, got, want api.Errno) {
	t.Helper()
	if got != want {
		t.Errorf("%s: error %d, want %d", what, got, want)
	}
}

// content is all bytes of a memory, as they are loaded one by one: by another
// way than the calls that tests mostly ask.
func content(t *testing.T, m *memory.Memory) []byte {
	t.Helper()
	b := make([]byte, m.Pages()*pageSize)
	for i := range b {
		v, e := m.Load(uint32(i), 1)
		if e != api.OK || v > 255 {
			t.Fatalf("Load(%d, 1) = %d, %d", i, v, e)
		}
		b[i] = byte(v)
	}
	return b
}

func wantContent(t *testing.T, what string, m *memory.Memory, want []byte) {
	t.Helper()
	got := content(t, m)
	if len(got) != len(want) {
		t.Fatalf("%s: %d bytes, want %d", what, len(got), len(want))
	}
	for i := range got {
		if got[i] != want[i] {
			t.Fatalf("%s: byte %d is %d, want %d", what, i, got[i], want[i])
		}
	}
}

func wantBytes(t *testing.T, m *memory.Memory, at uint32, want ...byte) {
	t.Helper()
	b, e := m.Read(at, len(want))
	if e != api.OK || !bytes.Equal(b, want) {
		t.Errorf("Read(%d, %d) = % x, %d, want % x", at, len(want), b, e, want)
	}
}

// spoil writes over all of a list, its spare room too.
func spoil(b []byte) {
	b = b[:cap(b)]
	for i := range b {
		b[i] ^= 0xa5
	}
}

func TestNew(t *testing.T) {
	for _, pages := range []int{1, 2, 4095, 4096} {
		m := newMemory(t, pages)
		if m.Pages() != pages {
			t.Errorf("Pages of New(%d) = %d", pages, m.Pages())
		}
		last := uint32(pages*pageSize - 1)
		if v, e := m.Load(last, 1); v != 0 || e != api.OK {
			t.Errorf("the last byte of %d pages: %d, %d", pages, v, e)
		}
		_, e := m.Load(last+1, 1)
		wantErrno(t, "Load behind the last byte", e, api.ErrMemoryOutside)
	}
	for _, pages := range []int{0, -1, -4096, 4097, 1 << 20, 1<<32 + 1, math.MaxInt, math.MinInt} {
		if m, e := memory.New(pages); m != nil || e != api.ErrMemoryArg {
			t.Errorf("New(%d) = %v, %d, want nil, %d", pages, m, e, api.ErrMemoryArg)
		}
	}
}

func TestNewIsAllNought(t *testing.T) {
	m := newMemory(t, 3)
	wantContent(t, "a new memory", m, make([]byte, 3*pageSize))
	if b, e := m.Read(0, 3*pageSize); e != api.OK || !bytes.Equal(b, make([]byte, 3*pageSize)) {
		t.Errorf("Read of a new memory: %d bytes, %d", len(b), e)
	}
	for number := range m.All() {
		t.Errorf("All of a new memory tells page %d", number)
	}
}

// TestMemoriesApart: R3, objects know nothing of one another.
func TestMemoriesApart(t *testing.T) {
	a, b := newMemory(t, 2), newMemory(t, 2)
	a.Fill(0, 2*pageSize, 7)
	wantContent(t, "another memory", b, make([]byte, 2*pageSize))
	if a.Equal(b) {
		t.Error("two memories with other bytes are equal")
	}
}

// TestLittleIsKept: a machine of which a page is used takes little more than
// that page; reading keeps nothing.
func TestLittleIsKept(t *testing.T) {
	const many = 512
	heap := func() uint64 {
		var s runtime.MemStats
		runtime.GC()
		runtime.ReadMemStats(&s)
		return s.HeapAlloc
	}
	before := heap()
	kept := make([]*memory.Memory, many)
	for i := range kept {
		m := newMemory(t, 4096)
		m.Store(uint32(i)*pageSize, 4, 1)
		for at := uint32(0); at < 4096*pageSize; at += 64 * pageSize {
			m.Load(at, 4)
			m.Read(at, 2*pageSize)
		}
		kept[i] = m
	}
	if more := int64(heap()) - int64(before); more > many*4*pageSize {
		t.Errorf("%d memories with a page each take %d bytes", many, more)
	}
	runtime.KeepAlive(kept)
}

func TestExamples(t *testing.T) {
	m := newMemory(t, 1)
	wantErrno(t, "Store", m.Store(0, 4, 0x04030201), api.OK)
	for _, c := range []struct {
		at   uint32
		size int
		v    uint32
		e    api.Errno
	}{{0, 1, 1, api.OK}, {2, 2, 0x0403, api.OK}, {1, 2, 0, api.ErrMemoryAlign}, {4096, 1, 0, api.ErrMemoryOutside}, {1, 3, 0, api.ErrMemoryArg}} {
		if v, e := m.Load(c.at, c.size); v != c.v || e != c.e {
			t.Errorf("example 1: Load(%d, %d) = %x, %d, want %x, %d", c.at, c.size, v, e, c.v, c.e)
		}
	}

	m = newMemory(t, 2)
	wantErrno(t, "example 2: Write", m.Write(4094, []byte{1, 2}, []byte{3, 4}), api.OK)
	told := map[uint32][]byte{}
	for number, b := range m.All() {
		told[number] = b
	}
	if len(told) != 2 || !bytes.Equal(told[0], append(make([]byte, 4094), 1, 2)) || !bytes.Equal(told[1], append([]byte{3, 4}, make([]byte, 4094)...)) {
		t.Errorf("example 2: All tells %d pages, or others", len(told))
	}

	m = newMemory(t, 1)
	m.Write(0, []byte{1, 2, 3, 4})
	wantErrno(t, "example 3: Copy", m.Copy(1, 0, 3), api.OK)
	wantBytes(t, m, 0, 1, 1, 2, 3)

	for _, c := range []struct {
		at uint32
		n  int
		e  api.Errno
	}{{4294967295, 2, api.ErrMemoryOutside}, {4096, 0, api.OK}, {4097, 0, api.ErrMemoryOutside}} {
		if b, e := m.Read(c.at, c.n); len(b) != 0 || e != c.e {
			t.Errorf("example 4: Read(%d, %d) = % x, %d, want nothing, %d", c.at, c.n, b, e, c.e)
		}
	}
}

func TestErrorNumbers(t *testing.T) {
	wantErrno(t, "ErrMemoryArg", api.ErrMemoryArg, 20)
	wantErrno(t, "ErrMemoryAlign", api.ErrMemoryAlign, 21)
	wantErrno(t, "ErrMemoryOutside", api.ErrMemoryOutside, 22)
}
