package memory_test

import (
	"bytes"
	"math"
	"testing"

	"cloister/api"
	"cloister/memory"
)

// edges are places of a memory of two pages, and what is wrong with them.
var edges = []struct {
	at uint32
	n  int
	e  api.Errno
}{
	{0, 0, api.OK}, {0, 1, api.OK}, {0, 4095, api.OK}, {0, 4096, api.OK}, {0, 4097, api.OK}, {0, 8191, api.OK}, {0, 8192, api.OK},
	{1, 4095, api.OK}, {1, 4096, api.OK}, {1, 8191, api.OK},
	{4095, 1, api.OK}, {4095, 2, api.OK}, {4095, 4097, api.OK}, {4096, 0, api.OK}, {4096, 1, api.OK}, {4096, 4096, api.OK},
	{8191, 0, api.OK}, {8191, 1, api.OK}, {8192, 0, api.OK},
	{0, 8193, api.ErrMemoryOutside}, {1, 8192, api.ErrMemoryOutside}, {4096, 4097, api.ErrMemoryOutside},
	{8191, 2, api.ErrMemoryOutside}, {8192, 1, api.ErrMemoryOutside}, {8193, 0, api.ErrMemoryOutside},
	{1 << 24, 0, api.ErrMemoryOutside}, {1 << 31, 1, api.ErrMemoryOutside}, {math.MaxUint32, 0, api.ErrMemoryOutside},
	{math.MaxUint32, 1, api.ErrMemoryOutside}, {math.MaxUint32, 2, api.ErrMemoryOutside}, {math.MaxUint32 - 1, 4, api.ErrMemoryOutside},
	{1, math.MaxUint32, api.ErrMemoryOutside}, {16, 1 << 32, api.ErrMemoryOutside}, {0, math.MaxInt, api.ErrMemoryOutside},
	{1, math.MaxInt, api.ErrMemoryOutside}, {math.MaxUint32, math.MaxInt, api.ErrMemoryOutside},
	{0, -1, api.ErrMemoryArg}, {0, -8192, api.ErrMemoryArg}, {16, -16, api.ErrMemoryArg}, {8193, -1, api.ErrMemoryArg},
	{math.MaxUint32, -1, api.ErrMemoryArg}, {0, math.MinInt, api.ErrMemoryArg}, {math.MaxUint32, math.MinInt, api.ErrMemoryArg},
}

func TestRead(t *testing.T) {
	m := counting(t, 2)
	all := content(t, m)
	for _, c := range edges {
		b, e := m.Read(c.at, c.n)
		wantErrno(t, "Read", e, c.e)
		var want []byte
		if c.e == api.OK {
			want = all[c.at:][:c.n]
		}
		if !bytes.Equal(b, want) {
			t.Errorf("Read(%d, %d): %d bytes, or others", c.at, c.n, len(b))
		}
	}
	wantContent(t, "behind reading", m, all)
}

// TestReadOfUnwritten: pages that were never written lie among others.
func TestReadOfUnwritten(t *testing.T) {
	m := newMemory(t, 5)
	m.Store(1*pageSize, 1, 11)
	m.Store(4*pageSize-1, 1, 33)
	want := make([]byte, 5*pageSize)
	want[pageSize], want[4*pageSize-1] = 11, 33
	for at := 0; at <= len(want); at += 1023 {
		b, e := m.Read(uint32(at), len(want)-at)
		if e != api.OK || !bytes.Equal(b, want[at:]) {
			t.Fatalf("Read(%d, %d): error %d, or other bytes", at, len(want)-at, e)
		}
	}
}

func TestReadSharesNothing(t *testing.T) {
	m := counting(t, 2)
	before := content(t, m)
	a, _ := m.Read(4000, 200)
	b, _ := m.Read(4000, 200)
	kept := bytes.Clone(b)
	spoil(a)
	if !bytes.Equal(b, kept) {
		t.Error("two lists that were read share memory")
	}
	wantContent(t, "a list that was read is written over", m, before)
	m.Fill(0, 2*pageSize, 0)
	if !bytes.Equal(b, kept) {
		t.Error("a list that was read is changed by a Fill")
	}
	for _, at := range []uint32{0, 8192} {
		none, _ := m.Read(at, 0)
		spoil(none)
	}
	wantContent(t, "lists of nothing are written over", m, make([]byte, 2*pageSize))
}

func TestWriteAtEdges(t *testing.T) {
	for _, c := range edges {
		if c.n < 0 || c.n > 1<<20 {
			continue
		}
		m := counting(t, 2)
		want := content(t, m)
		b := bytes.Repeat([]byte{0xee, 0xfd}, c.n/2+1)[:c.n]
		wantErrno(t, "Write", m.Write(c.at, b), c.e)
		if c.e == api.OK {
			copy(want[c.at:], b)
		}
		wantContent(t, "behind a Write", m, want)
	}
}

func TestWriteOfParts(t *testing.T) {
	for _, c := range []struct {
		name  string
		at    uint32
		parts [][]byte
		e     api.Errno
	}{
		{"no part", 0, nil, api.OK},
		{"no part at the end", 8192, nil, api.OK},
		{"no part beyond the end", 8193, nil, api.ErrMemoryOutside},
		{"no part at the last address", math.MaxUint32, nil, api.ErrMemoryOutside},
		{"parts of nothing at the end", 8192, [][]byte{nil, {}}, api.OK},
		{"parts of nothing beyond it", 8193, [][]byte{nil, {}}, api.ErrMemoryOutside},
		{"parts of nothing among others", 4094, [][]byte{nil, {0xe1, 0xe2, 0xe3}, {}, nil, {0xe4}, {}}, api.OK},
		{"parts that meet at a page's edge", 4094, [][]byte{{0xe1, 0xe2}, {0xe3, 0xe4}}, api.OK},
		{"parts up to the end", 8189, [][]byte{{0xe1}, {0xe2}, {0xe3}}, api.OK},
		{"the last part beyond the end", 8190, [][]byte{{0xe1}, {0xe2}, {0xe3}}, api.ErrMemoryOutside},
		{"a part of nothing behind the end", 8190, [][]byte{{0xe1, 0xe2, 0xe3}, nil}, api.ErrMemoryOutside},
		{"each inside, together not", 4096, [][]byte{make([]byte, 2048), make([]byte, 2048), {1}}, api.ErrMemoryOutside},
		{"around the end of addresses", math.MaxUint32, [][]byte{{1}, {2}, {3}}, api.ErrMemoryOutside},
		{"pages of their own", 0, [][]byte{bytes.Repeat([]byte{0xfe}, 4096), bytes.Repeat([]byte{0xfd}, 4096)}, api.OK},
	} {
		m := counting(t, 2)
		want := content(t, m)
		wantErrno(t, c.name, m.Write(c.at, c.parts...), c.e)
		if c.e == api.OK {
			copy(want[c.at:], bytes.Join(c.parts, nil))
		}
		wantContent(t, c.name, m, want)
	}
}

// TestWriteKeepsNothing: what is handed in is neither changed nor kept, nor
// its spare room.
func TestWriteKeepsNothing(t *testing.T) {
	m := newMemory(t, 2)
	room := bytes.Repeat([]byte{9}, 3*pageSize)
	parts := [][]byte{room[:2:10], room[pageSize : 2*pageSize]}
	wantErrno(t, "Write", m.Write(100, parts...), api.OK)
	m.Fill(0, 50, 3)
	m.Copy(60, 100, 20)
	if !bytes.Equal(room, bytes.Repeat([]byte{9}, 3*pageSize)) || len(parts[0]) != 2 || len(parts[1]) != pageSize {
		t.Error("what is handed in is changed")
	}
	before := content(t, m)
	spoil(room)
	parts[0], parts[1] = nil, nil
	wantContent(t, "parts are written over later", m, before)
}

// TestWriteOfOnePartTwice: parts may share memory with one another.
func TestWriteOfOnePartTwice(t *testing.T) {
	m := newMemory(t, 1)
	b := []byte{1, 2, 3}
	m.Write(1, b, b[1:], b[:2], b)
	wantBytes(t, m, 0, 0, 1, 2, 3, 2, 3, 1, 2, 1, 2, 3, 0)
}

func TestFill(t *testing.T) {
	for _, b := range []byte{0, 0xee, 255} {
		for _, c := range edges {
			m := counting(t, 2)
			want := content(t, m)
			wantErrno(t, "Fill", m.Fill(c.at, c.n, b), c.e)
			if c.e == api.OK {
				copy(want[c.at:], bytes.Repeat([]byte{b}, c.n))
			}
			wantContent(t, "behind a Fill", m, want)
		}
	}
}

// TestCopyAtEdges: each of both places at and beyond the edges, and both.
func TestCopyAtEdges(t *testing.T) {
	for _, c := range edges {
		for _, other := range []uint32{0, 1, 4095, 4096, 8191, 8192, 8193, math.MaxUint32} {
			e := c.e
			if e == api.OK && int(other)+c.n > 8192 {
				e = api.ErrMemoryOutside
			}
			wantCopy(t, c.at, other, c.n, e)
			wantCopy(t, other, c.at, c.n, e)
		}
	}
}

func wantCopy(t *testing.T, to, from uint32, n int, e api.Errno) {
	t.Helper()
	m := counting(t, 2)
	before, _ := m.Read(0, 8192)
	want := bytes.Clone(before)
	if e == api.OK {
		copy(want[to:], before[from:][:n])
	}
	if got := m.Copy(to, from, n); got != e {
		t.Errorf("Copy(%d, %d, %d) = %d, want %d", to, from, n, got, e)
	}
	if after, _ := m.Read(0, 8192); !bytes.Equal(after, want) {
		t.Errorf("Copy(%d, %d, %d) leaves other bytes", to, from, n)
	}
}

// TestCopyThatOverlaps: within a page and across its edge, by one byte, by
// nearly all, by more than a page, upwards and downwards.
func TestCopyThatOverlaps(t *testing.T) {
	for _, low := range []int{0, 1, 4090, 4096, 5000} {
		for _, by := range []int{0, 1, 2, 7, 4095, 4096, 4097} {
			for _, n := range []int{1, 2, 8, 100, 4096, 4097, 8192, 9000} {
				m := counting(t, 5)
				before := content(t, m)
				up, down := bytes.Clone(before), bytes.Clone(before)
				copy(up[low+by:], before[low:low+n])
				copy(down[low:], before[low+by:low+by+n])
				o := m.Clone()
				wantErrno(t, "Copy upwards", m.Copy(uint32(low+by), uint32(low), n), api.OK)
				wantErrno(t, "Copy downwards", o.Copy(uint32(low), uint32(low+by), n), api.OK)
				if b, _ := m.Read(0, 5*pageSize); !bytes.Equal(b, up) {
					t.Errorf("%d bytes from %d upwards by %d: other bytes", n, low, by)
				}
				if b, _ := o.Read(0, 5*pageSize); !bytes.Equal(b, down) {
					t.Errorf("%d bytes down to %d by %d: other bytes", n, low, by)
				}
			}
		}
	}
}

// TestCopyOfNoughts: what was never written is 0, and is copied as that.
func TestCopyOfNoughts(t *testing.T) {
	m := newMemory(t, 4)
	m.Fill(0, 2*pageSize, 5)
	wantErrno(t, "Copy", m.Copy(1, 2*pageSize, 2*pageSize-1), api.OK)
	want := make([]byte, 4*pageSize)
	want[0] = 5
	wantContent(t, "noughts are copied", m, want)
}

// TestThereAndBack: nothing is lost by Copy there and back, by Read and Write.
func TestThereAndBack(t *testing.T) {
	m := counting(t, 6)
	before := m.Clone()
	a, _ := m.Read(100, 2*pageSize)
	m.Copy(3*pageSize+50, 100, 2*pageSize)
	m.Fill(100, 2*pageSize, 0xff)
	m.Copy(100, 3*pageSize+50, 2*pageSize)
	if b, _ := m.Read(100, 2*pageSize); !bytes.Equal(a, b) {
		t.Error("Copy there and back loses something")
	}
	o := newMemory(t, 6)
	all, _ := before.Read(0, 6*pageSize)
	wantErrno(t, "Write", o.Write(0, all[:77], all[77:9000], all[9000:]), api.OK)
	if !o.Equal(before) {
		t.Error("Read and Write lose something")
	}
}

// TestGreatestMemory: all of 16 MiB, by one call each.
func TestGreatestMemory(t *testing.T) {
	const size = 16777216
	m := newMemory(t, 4096)
	wantErrno(t, "Fill", m.Fill(0, size, 1), api.OK)
	wantErrno(t, "Copy", m.Copy(0, 0, size), api.OK)
	b, e := m.Read(0, size)
	if e != api.OK || bytes.Count(b, []byte{1}) != size {
		t.Errorf("Read of all: %d bytes, %d", len(b), e)
	}
	wantErrno(t, "Write", m.Write(0, b), api.OK)
	wantErrno(t, "Write of one more", m.Write(0, b, []byte{2}), api.ErrMemoryOutside)
	wantErrno(t, "Fill of one more", m.Fill(0, size+1, 2), api.ErrMemoryOutside)
	wantErrno(t, "Copy of one more", m.Copy(0, 0, size+1), api.ErrMemoryOutside)
	wantErrno(t, "Copy by one more", m.Copy(1, 0, size), api.ErrMemoryOutside)
	for _, call := range []func(m *memory.Memory) api.Errno{
		func(m *memory.Memory) api.Errno { return m.Fill(size, 0, 2) },
		func(m *memory.Memory) api.Errno { return m.Copy(size, size, 0) },
		func(m *memory.Memory) api.Errno { return m.Write(size) },
	} {
		wantErrno(t, "nothing at the end", call(m), api.OK)
	}
	if o, _ := m.Read(0, size); !bytes.Equal(o, b) {
		t.Error("calls that were refused, or of nothing, change bytes")
	}
}
