package tables_test

import (
	"math"
	"slices"
	"testing"

	"cloister/api"
	"cloister/tables"
)

const (
	lastPage  = 1<<32 - pageSize // of a cell's addresses
	lastFrame = (mostPages - 1) * pageSize
)

// ranges that may be, and how many tables each of them takes.
var mayBe = []struct {
	r      api.Range
	tables int
}{
	{one(0, 0, 1), 1},
	{one(pageSize, pageSize, 1), 1},
	{one(bigPage-pageSize, 0, 1), 1},
	{one(bigPage, 0, 1), 1},
	{one(1<<31, 0, 1), 1},
	{one(lastPage, 0, 1), 1},
	{one(0, lastFrame, 1), 1},
	{one(lastPage, lastFrame, 1), 1},
	{some(lastPage-pageSize, 0, 2, 1), 1},
	{some(0, lastFrame-pageSize, 2, 1), 1},
	{some(0, 0, 1024, 1), 1},
	{some(pageSize, 0, 1023, 1), 1},
	{some(0, 0, 1025, 1), 2},
	{some(pageSize, 0, 1024, 1), 2},
	{some(bigPage-pageSize, 0, 2, 1), 2},
	{some(bigPage-pageSize, 0, 1025, 1), 2},
	{some(bigPage-pageSize, 0, 1026, 1), 3},
	{some(0, 0, mostPages, 1), 4},
	{some(bigPage-pageSize, 0, mostPages, 1), 5},
	{some(1<<32-mostPages*pageSize, 0, mostPages, 1), 4},
	{some(0, pageSize, mostPages-1, 1), 4},
	{some(1<<32-1000*pageSize, lastFrame-999*pageSize, 1000, 1), 1},
	{one(0, 0, 3), 1}, {one(0, 0, 4), 1}, {one(0, 0, 5), 1}, {one(0, 0, 7), 1},
}

// ranges that may not be.
var mayNotBe = []api.Range{
	{},
	// addresses of the cell that are no page's
	one(1, 0, 1), one(2, 0, 1), one(4, 0, 1), one(2048, 0, 1), one(4095, 0, 1), one(4097, 0, 1), one(lastPage+1, 0, 1), one(1<<32-1, 0, 1),
	// physical ones
	one(0, 1, 1), one(0, 2, 1), one(0, 4, 1), one(0, 2048, 1), one(0, 4095, 1), one(0, 4097, 1), one(0, lastFrame+1, 1), one(0, lastFrame+4095, 1),
	// no pages, and below
	some(0, 0, 0, 1), some(pageSize, pageSize, 0, 1), some(0, 0, -1, 1), some(pageSize, pageSize, -1, 1), some(0, 0, -mostPages, 1),
	some(0, 0, -1<<20, 1), some(0, 0, -1<<32, 1), some(0, 0, 1-1<<32, 1), some(0, 0, 1-1<<52, 1), some(0, 0, math.MinInt, 1), some(0, 0, math.MinInt+1, 1),
	// beyond the cell's addresses
	some(lastPage, 0, 2, 1), some(lastPage-pageSize, 0, 3, 1), some(1<<32-mostPages*pageSize+pageSize, 0, mostPages, 1), some(lastPage, 0, mostPages, 1),
	// beyond the frame 4095
	some(0, lastFrame, 2, 1), some(0, lastFrame-pageSize, 3, 1), some(0, pageSize, mostPages, 1), some(0, 0, mostPages+1, 1), some(0, 0, 1<<16, 1),
	one(0, lastFrame+pageSize, 1), some(0, lastFrame+pageSize, 0, 1), some(0, lastFrame+pageSize, -1, 1), one(0, 1<<31, 1), one(0, lastPage, 1), some(0, lastPage, 2, 1), some(lastPage, lastPage, 2, 1),
	// so many pages that their bytes pass any number
	some(0, 0, 1<<20, 1), some(0, 0, 1<<20+1, 1), some(pageSize, pageSize, 1<<20, 1), some(0, 0, 1<<31, 1), some(0, 0, 1<<32, 1), some(0, 0, 1<<32+1, 1),
	some(0, 0, 1<<51, 1), some(0, 0, 1<<52, 1), some(0, 0, 1<<52+1, 1), some(pageSize, pageSize, 1<<52-1, 1), some(0, 0, 1<<62, 1), some(0, 0, 1<<62+1, 1), some(lastPage, lastFrame, 1<<52+1, 1),
	some(0, 0, math.MaxInt, 1), some(pageSize, pageSize, math.MaxInt, 1), some(lastPage, lastFrame, math.MaxInt, 1),
	// permissions
	one(0, 0, 0), one(0, 0, 2), one(0, 0, 6), one(0, 0, 8), one(0, 0, 9), one(0, 0, 15), one(0, 0, 16), one(0, 0, 17), one(0, 0, 128), one(0, 0, 129), one(0, 0, 255),
}

func TestRangesThatMayBe(t *testing.T) {
	for _, c := range mayBe {
		m, a, s := build(t, 6)
		if n := tables.Need(c.r); n != 1+c.tables {
			t.Errorf("Need(%x) = %d, want %d", c.r, n, 1+c.tables)
		}
		wantMapped(t, s, c.r)
		wantArena(t, "mapped", a, 5-c.tables, 1+c.tables)
		if l := tables.Ranges(m, s.Root()); !slices.Equal(l, []api.Range{c.r}) {
			t.Errorf("Ranges of %x: %x", c.r, l)
		}
	}
}

// TestRangesThatMayNotBe: alone, and ahead of others and behind them.
func TestRangesThatMayNotBe(t *testing.T) {
	well := some(bigPage, 0, 3, api.Read)
	for _, r := range mayNotBe {
		_, a, s := build(t, 6)
		for _, l := range [][]api.Range{{r}, {well, r}, {r, well}, {well, r, well}, {r, r}} {
			wantRefused(t, a, s, api.ErrTablesArg, l...)
			if n := tables.Need(l...); n != 0 {
				t.Errorf("Need(%x) = %d, want 0", l, n)
			}
		}
	}
}

// TestPerms: all that there are.
func TestPerms(t *testing.T) {
	for p := range 256 {
		_, a, s := build(t, 6)
		r := one(0, 0, api.Perm(p))
		if slices.Contains(perms, r.Perm) {
			wantMapped(t, s, r)
			wantWord(t, a.Memory(), 9*pageSize, pageWord(r.Perm, 0))
			continue
		}
		wantRefused(t, a, s, api.ErrTablesArg, r)
		if n := tables.Need(r); n != 0 {
			t.Errorf("Need(%x) = %d, want 0", r, n)
		}
	}
}

// TestEachAddress: of a page, but its first, for both.
func TestEachAddress(t *testing.T) {
	for at := uint32(pageSize + 1); at < 2*pageSize; at++ {
		if tables.Need(one(at, 0, 1)) != 0 || tables.Need(one(0, at, 1)) != 0 {
			t.Fatalf("a range may not be at %x", at)
		}
	}
}

func TestNeed(t *testing.T) {
	for _, c := range []struct {
		l    []api.Range
		want int
	}{
		{nil, 1},
		{[]api.Range{}, 1},
		{[]api.Range{one(0, 0, 1)}, 2},
		{[]api.Range{one(0, 0, 1), one(pageSize, 0, 1)}, 2},                                // that share a first index
		{[]api.Range{one(0, 0, 1), one(bigPage-pageSize, 0, 1)}, 2},                        // at both ends
		{[]api.Range{one(0, 0, 1), one(bigPage, 0, 1)}, 3},                                 // that do not
		{[]api.Range{one(0, 0, 1), one(0, 0, 1)}, 2},                                       // twice the same
		{[]api.Range{some(0, 0, 1025, 1), some(0, pageSize, 1025, 5), one(0, 0, 1)}, 3},    // pages that stand twice
		{[]api.Range{some(0, 0, 1025, 1), some(bigPage, 0, 1025, 1)}, 4},                   // over several, which are shared in part
		{[]api.Range{some(bigPage, 0, 1025, 1), some(0, 0, 1025, 1)}, 4},                   // the other way round
		{[]api.Range{one(lastPage, 0, 1), some(1<<32-bigPage, 0, 1023, 1)}, 2},             // the last one
		{[]api.Range{some(0, 0, 4096, 1), some(4*bigPage, 0, 4096, 1)}, 9},                 // side by side
		{[]api.Range{some(pageSize, 0, 4096, 1), some(4*bigPage, 0, 4096, 1)}, 9},          // a page further
		{[]api.Range{some(pageSize, 0, 4096, 1), some(4*bigPage+pageSize, 0, 1, 1)}, 6},    // and another in its last table
		{[]api.Range{one(7*bigPage, 0, 1), one(5*bigPage, 0, 1), one(7*bigPage, 0, 1)}, 3}, // out of order
	} {
		if n := tables.Need(c.l...); n != c.want {
			t.Errorf("Need(%x) = %d, want %d", c.l, n, c.want)
		}
	}
}

// TestNeedOfAll: of all addresses of a cell, once and once more.
func TestNeedOfAll(t *testing.T) {
	var l []api.Range
	for i := range uint32(256) {
		l = append(l, some(i*mostPages*pageSize, 0, mostPages, 1))
		if n, want := tables.Need(l...), 1+4*len(l); n != want {
			t.Fatalf("Need of %d ranges = %d, want %d", len(l), n, want)
		}
	}
	if n := tables.Need(append(l, l...)...); n != 1025 {
		t.Errorf("Need of all twice = %d, want 1025", n)
	}
}

// TestNeedOfMany: each list is gone through range by range, not page by page.
func TestNeedOfMany(t *testing.T) {
	l := make([]api.Range, 1<<17)
	for i := range l {
		l[i] = some(uint32(i%255)*mostPages*pageSize, 0, mostPages, 7)
	}
	if n := tables.Need(l...); n != 1+255*4 {
		t.Errorf("Need of many = %d, want %d", n, 1+255*4)
	}
}

// TestNeedIsTaken: Need is just how many pages are taken, and one less is not
// enough.
func TestNeedIsTaken(t *testing.T) {
	for _, l := range [][]api.Range{
		{},
		{one(0, 0, 1)},
		{one(0, 0, 1), one(pageSize, 0, 1), one(5*bigPage, 0, 1)},
		{some(bigPage-pageSize, 0, 2000, 7), one(0, 0, 5), some(20*bigPage, 0, 1025, 4)},
		{some(lastPage-5000*pageSize, 0, 4096, 3), one(lastPage, 0, 1), one(0, 0, 1)},
	} {
		n := tables.Need(l...)
		_, a, s := build(t, n)
		wantMapped(t, s, l...)
		wantArena(t, "just enough", a, 0, n)
		if n == 1 {
			continue
		}
		_, a, s = build(t, n-1)
		wantRefused(t, a, s, api.ErrTablesFull, l...)
	}
}
