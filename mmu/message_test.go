package mmu_test

import (
	"math"
	"slices"
	"testing"

	"cloister/api"
)

// count is so many bytes, each another one than its neighbours.
func count(n int) []byte {
	b := make([]byte, n)
	for i := range b {
		b[i] = byte(i*7 + 1)
	}
	return b
}

// lined is what n words cost from a page's start on, lines of 16 bytes, none
// of them there.
func lined(n int) int { return 12*((n+3)/4) + n - (n+3)/4 }

// TestMessageLengths: all that may be, and the cycles of each.
func TestMessageLengths(t *testing.T) {
	for n := 0; n <= api.MaxMessage; n += 4 {
		x := build(t, usual, 4, []api.Range{one(0, 5, rw)})
		x.m.Fill(5*pageSize, pageSize, 0xee)
		was, b, walk := x.state(), count(n), 24
		if n == 0 {
			walk = 0
		}
		wantWrite(t, x.u, 1, 0, b, walk+lined(n/4), api.FaultNone)
		was.m.Write(5*pageSize, b)
		wantMemory(t, "Write", x, was)
		if got := x.c.Dirty(); got != (n+15)/16 {
			t.Errorf("Write of %d bytes: %d dirty lines", n, got)
		}
		wantRead(t, x.u, 1, 0, n, b, n/4, api.FaultNone)
		x.u.Flush()
		wantRead(t, x.u, 1, 0, n, b, walk+lined(n/4), api.FaultNone)
		if got := x.c.Dirty(); got != 0 {
			t.Errorf("Read of %d bytes: %d dirty lines", n, got)
		}
		wantMemory(t, "Read", x, was)
	}
}

// TestNoMessages: lengths and addresses that may not be: FaultAlign comes
// ahead of all else, and changes nothing.
func TestNoMessages(t *testing.T) {
	x := build(t, usual, 4, []api.Range{one(0, 5, rw)})
	wantStore(t, x.u, 1, 0, 4, 0x01020304, 36, api.FaultNone)
	was := x.state()
	for _, cell := range []int{1, 2, 0, 9} {
		for _, n := range []int{1, 2, 3, 5, 6, 7, 254, 255, 257, 258, 259, 260, 512, 4096, 1 << 16} {
			wantRead(t, x.u, cell, 0, n, nil, 0, api.FaultAlign)
			wantWrite(t, x.u, cell, 0, count(n), 0, api.FaultAlign)
		}
		for _, n := range []int{-1, -2, -4, -8, -256, -260, 1 << 32, 1<<32 + 4, 1<<32 + 256, -1<<32 + 4, math.MaxInt, math.MaxInt - 3, math.MinInt, math.MinInt + 4, math.MinInt32} {
			wantRead(t, x.u, cell, 0, n, nil, 0, api.FaultAlign)
		}
		for _, at := range []uint32{1, 2, 3, 5, 6, 7, 4093, 4094, 4095, 1<<32 - 1, 1<<32 - 2, 1<<32 - 3} {
			for _, n := range []int{0, 4, 8, 256} {
				wantRead(t, x.u, cell, at, n, nil, 0, api.FaultAlign)
				wantWrite(t, x.u, cell, at, count(n), 0, api.FaultAlign)
			}
		}
	}
	wantSame(t, "FaultAlign", x, was)
}

// across: two pages, one behind the other for the cell, in the memory apart;
// then one that may be read alone, and one that may be executed alone.
func across(t *testing.T) machine {
	t.Helper()
	return build(t, usual, 4, []api.Range{one(0, 9, rw), one(pageSize, 5, rw), one(2*pageSize, 7, api.Read), one(3*pageSize, 8, api.Exec)})
}

// TestAcrossPages: the words go where their pages are, and each page is looked
// for once.
func TestAcrossPages(t *testing.T) {
	for before := 0; before <= 256; before += 4 {
		x, b := across(t), count(256)
		at, was := uint32(pageSize-before), x.state()
		was.m.Write(10*pageSize-uint32(before), b[:before])
		was.m.Write(5*pageSize, b[before:])
		walks := 26
		if before == 0 || before == 256 {
			walks = 24
		}
		cost := walks + lined(before/4) + lined(64-before/4) // a page's end is a line's end
		if before%16 != 0 {                                  // the first line is there in part, so that the lines are one more
			cost = walks + 12*(before/16+1) + before/4 - (before/16 + 1) + lined(64-before/4)
		}
		wantWrite(t, x.u, 1, at, b, cost, api.FaultNone)
		wantMemory(t, "Write", x, was)
		x.u.Flush()
		wantRead(t, x.u, 1, at, 256, b, cost, api.FaultNone)
	}
}

// TestAround: behind the last address comes the first one.
func TestAround(t *testing.T) {
	x := build(t, usual, 4, []api.Range{one(0, 9, rw), one(1<<32-pageSize, 5, rw)})
	was := x.state()
	wantWrite(t, x.u, 1, 1<<32-8, count(20), 48+12+12+4-1, api.FaultNone)
	was.m.Write(6*pageSize-8, count(20)[:8])
	was.m.Write(9*pageSize, count(20)[8:])
	wantMemory(t, "Write", x, was)
	wantRead(t, x.u, 1, 1<<32-8, 20, count(20), 5, api.FaultNone)
	wantSlots(t, "both pages", x, slot(1, 0, 9, rw), slot(1, 1<<20-1, 5, rw))

	x = build(t, usual, 4, []api.Range{one(1<<32-pageSize, 5, rw)})
	wantRead(t, x.u, 1, 1<<32-4, 8, nil, 36+12, api.FaultUnmapped)
	wantWrite(t, x.u, 1, 1<<32-4, count(8), 1, api.FaultUnmapped)
}

// TestReadFault: the first fault ends it, with the cycles till then and its
// own; the words behind it are not asked for.
func TestReadFault(t *testing.T) {
	x := across(t)
	x.m.Write(8*pageSize-8, count(8))
	wantRead(t, x.u, 1, 3*pageSize-8, 16, nil, 36+1+2, api.FaultDenied)
	wantRead(t, x.u, 1, 3*pageSize-8, 16, nil, 1+1+2, api.FaultDenied)
	wantRead(t, x.u, 1, 3*pageSize-8, 8, count(8), 2, api.FaultNone)
	wantRead(t, x.u, 1, 3*pageSize, 4, nil, 2, api.FaultDenied)
	wantRead(t, x.u, 1, 4*pageSize, 4, nil, 1+12, api.FaultUnmapped)
	wantFetch(t, x.u, 1, 3*pageSize, 0, 2+12, api.FaultNone)
	wantRead(t, x.u, 1, 3*pageSize-4, 256, nil, 1, api.FaultDenied) // the TLB knows
	wantSlots(t, "Read", x, slot(1, 3, 8, 4), slot(1, 2, 7, 1))
}

// TestWriteFault: what is refused at whichever word has written nothing, nor
// used the cache for what it would have written.
func TestWriteFault(t *testing.T) {
	for before := 4; before <= 252; before += 4 {
		x := across(t)
		was := x.state()
		wantWrite(t, x.u, 1, uint32(2*pageSize-before), count(256), 24+2, api.FaultDenied)
		wantWrite(t, x.u, 1, uint32(2*pageSize-before), count(before+4), 2, api.FaultDenied)
		wantMemory(t, "Write", x, was)
		if x.c.Dirty() != 0 || len(x.c.Lines()) != 2 {
			t.Errorf("Write, refused behind %d bytes: the lines %v", before, x.c.Lines())
		}
		wantSlots(t, "Write", x, slot(1, 1, 5, rw))
		wantWrite(t, x.u, 1, uint32(2*pageSize-before), count(before), 12*((before+15)/16)+before/4-(before+15)/16, api.FaultNone)
	}
	x := across(t)
	was := x.state()
	wantWrite(t, x.u, 1, 2*pageSize, count(4), 24, api.FaultDenied)
	wantWrite(t, x.u, 1, 3*pageSize, count(8), 2, api.FaultDenied)
	wantWrite(t, x.u, 1, 4*pageSize, count(8), 1+12, api.FaultUnmapped)
	wantWrite(t, x.u, 1, bigPage, count(8), 1, api.FaultUnmapped)
	wantMemory(t, "Write", x, was)
	x.put(slot(1, 2, 64, rw))
	wantWrite(t, x.u, 1, 2*pageSize-4, count(8), 2, api.FaultOutside)
	wantMemory(t, "Write", x, was)
	wantWrite(t, x.u, 1, 2*pageSize, count(8), 0, api.FaultOutside)
}

// TestWriteOrder: all words are looked for first, then all are laid down; Read
// does both of each word. (A cache of one line tells the order.)
func TestWriteOrder(t *testing.T) {
	x := build(t, smallest, 1, []api.Range{one(0, 9, rw), one(pageSize, 5, rw)})
	wantWrite(t, x.u, 1, pageSize-4, count(8), 4*12+12+20, api.FaultNone)
	wantLines(t, "Write", x, api.Line{Tag: 5 * 256, Dirty: true})
	wantSlots(t, "Write", x, slot(1, 1, 5, rw))
	x.u.Flush()
	wantRead(t, x.u, 1, pageSize-4, 8, count(8), 6*12, api.FaultNone)
	wantWrite(t, x.u, 1, pageSize, count(4), 1, api.FaultNone) // the line that the last word left
	wantWrite(t, x.u, 1, pageSize-8, count(8), 20+12+12+1, api.FaultNone)
	wantRead(t, x.u, 1, pageSize-4, 8, append(count(8)[4:], count(4)...), 1+20+12+12, api.FaultNone)
}

// TestWriteIntoTables: a word of a message that changes where a later word's
// page is has no say in where that one goes.
func TestWriteIntoTables(t *testing.T) {
	x := build(t, usual, 4, []api.Range{one(1022*pageSize, 41, rw), one(1023*pageSize, 5, rw)})
	w := pageWord(rw, 6)
	b := []byte{byte(w), byte(w >> 8), byte(w >> 16), byte(w >> 24), 1, 2, 3, 4}
	wantWrite(t, x.u, 1, 1023*pageSize-4, b, 24+2+1+12, api.FaultNone)
	wantWord(t, x.m, 42*pageSize-4, w)
	wantWord(t, x.m, 5*pageSize, 0x04030201)
	wantWord(t, x.m, 6*pageSize, 0)
	x.u.Flush()
	wantStore(t, x.u, 1, 1023*pageSize, 4, 9, 36, api.FaultNone)
	wantWord(t, x.m, 6*pageSize, 9)
}

// TestOnePlace: two pages of the cell that are one page of the memory: what a
// message writes last stays.
func TestOnePlace(t *testing.T) {
	x := build(t, usual, 4, []api.Range{one(0, 5, rw), one(pageSize, 5, rw)})
	wantStore(t, x.u, 1, 0, 4, 1, 36, api.FaultNone)
	wantWrite(t, x.u, 1, pageSize-4, count(8), 2+12+1, api.FaultNone)
	wantRead(t, x.u, 1, 0, 4, count(8)[4:], 1, api.FaultNone)
	wantRead(t, x.u, 1, 2*pageSize-4, 4, count(4), 1, api.FaultNone)
}

// TestMessageLists: what is handed in is neither changed nor kept, nor what
// stands behind it; what comes out is new memory, each time.
func TestMessageLists(t *testing.T) {
	x := across(t)
	room := count(300)
	b := room[8:24]
	wantWrite(t, x.u, 1, 16, b, 36+3, api.FaultNone)
	if !slices.Equal(room, count(300)) {
		t.Errorf("Write changes what it is given")
	}
	clear(room)
	one, _, _ := x.u.Read(1, 16, 16)
	two, _, _ := x.u.Read(1, 16, 16)
	want := count(24)[8:]
	if !slices.Equal(one, want) || !slices.Equal(two, want) {
		t.Errorf("Read: %v, %v, want %v", one, two, want)
	}
	spare := one[:cap(one)]
	for i := range spare {
		spare[i] = 0xff
	}
	if !slices.Equal(two, want) {
		t.Errorf("two lists share memory")
	}
	wantRead(t, x.u, 1, 16, 16, want, 4, api.FaultNone)
	wantWrite(t, x.u, 1, 2*pageSize-4, count(8), 2+2, api.FaultDenied)
	wantWrite(t, x.u, 1, 16, []byte{}, 0, api.FaultNone)
}
