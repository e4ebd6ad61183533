package tables_test

import (
	"slices"
	"testing"

	"cloister/api"
	"cloister/memory"
	"cloister/tables"
)

// TestMapTwice: a page that stands in two ranges of one list.
func TestMapTwice(t *testing.T) {
	for _, l := range [][]api.Range{
		{one(0, 0, 1), one(0, 0, 1)},
		{one(0, 0, 1), one(0, pageSize, 5)},                                          // elsewhere
		{one(pageSize, 0, 1), one(0, 0, 1), one(pageSize, 0, 1)},                     // not side by side
		{some(0, 0, 4, 1), one(3*pageSize, 0, 1)},                                    // its last page
		{one(3*pageSize, 0, 1), some(0, 0, 4, 1)},                                    // the other way round
		{some(0, 0, 4, 1), some(3*pageSize, 0, 4, 1)},                                // the one's last, the other one's first
		{some(pageSize, 0, 2, 1), some(0, 0, 4, 1)},                                  // one within the other
		{some(0, 0, 1025, 1), one(bigPage, 0, 1)},                                    // in the second table
		{one(lastPage, 0, 1), one(lastPage, 0, 1)},                                   // the last one of all
		{one(0, 0, 1), one(bigPage, 0, 1), one(2*bigPage, 0, 1), one(bigPage, 0, 1)}, // of several tables
	} {
		_, a, s := build(t, 9)
		wantRefused(t, a, s, api.ErrTablesThere, l...)
	}
	// pages that share one of both indexes alone, and pages of one frame
	_, _, s := build(t, 9)
	wantMapped(t, s, one(0, 0, 1), one(pageSize, 0, 1), one(bigPage, 0, 1), one(bigPage+pageSize, 0, 1))
	wantMapped(t, s, some(2*pageSize, 0, 2, 1), some(4*pageSize, 0, 2, 1))
}

// TestMapThere: a page that is mapped already.
func TestMapThere(t *testing.T) {
	_, a, s := build(t, 9)
	wantMapped(t, s, some(bigPage-2*pageSize, 0, 4, 1))
	for _, l := range [][]api.Range{
		{one(bigPage-2*pageSize, 0, 1)},
		{one(bigPage+pageSize, 0, 1)},
		{some(bigPage-2*pageSize, 0, 4, 1)},
		{some(bigPage-4*pageSize, 0, 3, 1)},
		{some(bigPage+pageSize, 0, 3, 1)},
		{some(bigPage-9*pageSize, 0, 99, 1)},
		{one(0, 0, 1), one(bigPage, pageSize, 7)},
		{one(9*bigPage, 0, 1), one(bigPage, 0, 1)}, // and a table is wanted
		{one(bigPage, 0, 1), one(9*bigPage, 0, 1)},
	} {
		wantRefused(t, a, s, api.ErrTablesThere, l...)
	}
	wantMapped(t, s, some(bigPage-4*pageSize, 0, 2, 1), some(bigPage+2*pageSize, 0, 2, 1)) // side by side with it
	wantArena(t, "no more tables", a, 6, 3)
}

// TestMapOverWords: whatever else stands where a page's word would go.
func TestMapOverWords(t *testing.T) {
	for _, w := range []uint32{1, 2, 0x10, 0x1000, pageWord(1, 0), pageWord(7, 4095), tableWord(0), tableWord(9), tableWord(4095), 5, 0x23, 0x803, 0x01000003, 0x80000000, 1<<32 - 1} {
		m, a, s := build(t, 9)
		wantMapped(t, s, one(0, 0, 1))
		setWord(t, m, 9*pageSize+8, w)
		wantRefused(t, a, s, api.ErrTablesThere, one(2*pageSize, 0, 1))
		wantRefused(t, a, s, api.ErrTablesThere, some(pageSize, 0, 3, 1))
		wantRefused(t, a, s, api.ErrTablesThere, one(pageSize, 0, 1), one(5*bigPage, 0, 1), one(2*pageSize, 0, 1))
		wantMapped(t, s, one(pageSize, 0, 1), one(3*pageSize, 0, 1)) // beside it
		wantWord(t, m, 9*pageSize+8, w)
		setWord(t, m, 9*pageSize+8, 0)
		wantMapped(t, s, one(2*pageSize, 0, 1))
	}
}

// TestMapOverRoot: a root's word that is neither none nor a table in the
// memory.
func TestMapOverRoot(t *testing.T) {
	for _, w := range []uint32{
		pageWord(1, 0), pageWord(7, 9), pageWord(4, 4095), // pages
		1, 2, 5, 0x10, 0x13, 0x1f, 0x31, 0x811, 0x1000, 0x01000011, 0x80000000, 1<<32 - 1, // malformed
		tableWord(64), tableWord(65), tableWord(4095), // tables outside the memory
	} {
		m, a, s := build(t, 9)
		setWord(t, m, s.Root()+4, w)
		wantRefused(t, a, s, api.ErrTablesThere, one(bigPage, 0, 1))
		wantRefused(t, a, s, api.ErrTablesThere, one(2*bigPage-pageSize, 0, 1))
		wantRefused(t, a, s, api.ErrTablesThere, one(0, 0, 1), some(bigPage-pageSize, 0, 2, 1))
		wantRefused(t, a, s, api.ErrTablesThere, one(bigPage, 0, 1), one(0, 0, 1))
		wantMapped(t, s, one(0, 0, 1), one(2*bigPage, 0, 1)) // beside it
		wantWord(t, m, s.Root()+4, w)
	}
}

// TestMapIntoOthers: a table that the root tells, whoever wrote that word, is
// used where it is, also one outside the arena, or at the memory's ends.
func TestMapIntoOthers(t *testing.T) {
	for _, frame := range []uint32{0, 3, 63} {
		m, a, s := build(t, 2)
		m.Fill(frame*pageSize, pageSize, 0)
		setWord(t, m, s.Root()+4, tableWord(frame))
		wantMapped(t, s, some(bigPage+pageSize, 5*pageSize, 2, 3))
		wantArena(t, "a table of others", a, 1, 1)
		wantWord(t, m, s.Root()+4, tableWord(frame))
		wantWord(t, m, frame*pageSize+4, pageWord(3, 5))
		wantWord(t, m, frame*pageSize+8, pageWord(3, 6))
		wantRefused(t, a, s, api.ErrTablesThere, one(bigPage+pageSize, 0, 1))
	}
}

// TestMapRoom: tables that are wanted, of an arena that is sealed or has not
// enough pages.
func TestMapRoom(t *testing.T) {
	three := []api.Range{some(bigPage-pageSize, 0, 2, 1), one(9*bigPage, 0, 1)}
	for left := range 3 {
		_, a, s := build(t, 1+left)
		wantRefused(t, a, s, api.ErrTablesFull, three...)
		a.Seal()
		wantRefused(t, a, s, api.ErrTablesSealed, three...)
	}
	_, a, s := build(t, 4)
	wantMapped(t, s, three...)
	wantArena(t, "just enough", a, 0, 4)
	wantRefused(t, a, s, api.ErrTablesFull, one(2*bigPage, 0, 1))
	wantRefused(t, a, s, api.ErrTablesFull, one(0, 0, 1), one(2*bigPage, 0, 1))

	_, a, s = build(t, 9)
	wantMapped(t, s, one(0, 0, 1))
	a.Seal()
	wantRefused(t, a, s, api.ErrTablesSealed, one(bigPage, 0, 1))
	wantRefused(t, a, s, api.ErrTablesSealed, one(pageSize, 0, 1), one(bigPage, 0, 1))
	wantRefused(t, a, s, api.ErrTablesSealed, some(bigPage-pageSize, 0, 2, 1))
	wantArena(t, "sealed", a, 7, 2)
}

// TestMapWithoutRoom: where no tables are wanted, the arena is not asked.
func TestMapWithoutRoom(t *testing.T) {
	for _, seal := range []bool{false, true} {
		for _, pages := range []int{3, 9} {
			m, a, s := build(t, pages)
			wantMapped(t, s, some(bigPage-pageSize, 0, 2, 1))
			if seal {
				a.Seal()
			}
			wantMapped(t, s)
			wantMapped(t, s, one(0, 0, 1), one(2*bigPage-pageSize, 0, 1))
			wantMapped(t, s, some(bigPage-3*pageSize, 0, 2, 1), some(bigPage+pageSize, 0, 2, 1))
			wantArena(t, "no tables were wanted", a, pages-3, 3)
			wantWord(t, m, 9*pageSize, pageWord(1, 0))
			wantWord(t, m, 10*pageSize+4092, pageWord(1, 0))
		}
	}
}

// TestMapErrorsInOrder: where several apply.
func TestMapErrorsInOrder(t *testing.T) {
	wrong, there, wanted := one(1, 0, 1), one(0, 0, 1), some(bigPage, 0, 1025, 1)
	for _, seal := range []bool{false, true} {
		full := api.ErrTablesFull
		_, a, s := build(t, 3) // room for one table more
		wantMapped(t, s, there)
		if seal {
			a.Seal()
			full = api.ErrTablesSealed
		}
		for _, l := range [][]api.Range{{wrong, there, wanted}, {there, wanted, wrong}, {wanted, wanted, wrong}, {wanted, wrong}, {there, wrong}} {
			wantRefused(t, a, s, api.ErrTablesArg, l...)
		}
		for _, l := range [][]api.Range{{there, wanted}, {wanted, there}, {wanted, wanted}, {wanted, one(9*bigPage, 0, 1), one(9*bigPage, 0, 1)}} {
			wantRefused(t, a, s, api.ErrTablesThere, l...)
		}
		wantRefused(t, a, s, full, wanted)
		wantRefused(t, a, s, full, one(pageSize, 0, 1), wanted)
	}
}

// TestMapOfNone: whatever the arena is.
func TestMapOfNone(t *testing.T) {
	for _, pages := range []int{1, 2} {
		m, a, s := build(t, pages)
		before := m.Clone()
		wantMapped(t, s)
		wantMapped(t, s, []api.Range{}...)
		a.Seal()
		wantMapped(t, s)
		wantArena(t, "Map of none", a, pages-1, 1)
		if !before.Equal(m) {
			t.Error("Map of none has written")
		}
	}
}

// wantWords: a memory is what it was but for these words, and for pages that
// were taken, which were put to 0 ahead of that.
func wantWords(t *testing.T, what string, m *memory.Memory, was []byte, taken []uint32, words map[uint32]uint32) {
	t.Helper()
	for _, at := range taken {
		clear(was[at : at+pageSize])
	}
	for at, w := range words {
		for i := range uint32(4) {
			was[at+i] = byte(w >> (8 * i))
		}
	}
	for i, b := range content(t, m) {
		if b != was[i] {
			t.Fatalf("%s: byte %x is %x, want %x", what, i, b, was[i])
		}
	}
}

// TestMapOrder: tables are taken in the order in which their first pages come,
// range by range and page by page, and nothing else is written.
func TestMapOrder(t *testing.T) {
	m, a, s := build(t, 12)
	was := content(t, m)
	wantMapped(t, s,
		some(7*bigPage-pageSize, 20*pageSize, 2, 1),     // in 6 and 7
		one(2*bigPage+5*pageSize, 40*pageSize, 3),       // in 2
		one(6*bigPage, 41*pageSize, 7),                  // in 6, ahead of the page that is there
		some(2*bigPage-2*pageSize, 4092*pageSize, 4, 5), // in 1 and in 2
		one(lastPage, 4095*pageSize, 4),                 // in 1023
		one(0, 0, 4),                                    // in 0
	)
	wantArena(t, "six tables", a, 5, 7)
	root := uint32(8 * pageSize)
	wantWords(t, "in order", m, was, []uint32{9 * pageSize, 10 * pageSize, 11 * pageSize, 12 * pageSize, 13 * pageSize, 14 * pageSize}, map[uint32]uint32{
		root + 4*6: tableWord(9), root + 4*7: tableWord(10), root + 4*2: tableWord(11), root + 4*1: tableWord(12), root + 4*1023: tableWord(13), root: tableWord(14),
		9*pageSize + 4*1023: pageWord(1, 20), 10 * pageSize: pageWord(1, 21),
		11*pageSize + 4*5:    pageWord(3, 40),
		9 * pageSize:         pageWord(7, 41),
		12*pageSize + 4*1022: pageWord(5, 4092), 12*pageSize + 4*1023: pageWord(5, 4093), 11 * pageSize: pageWord(5, 4094), 11*pageSize + 4: pageWord(5, 4095),
		13*pageSize + 4*1023: pageWord(4, 4095),
		14 * pageSize:        pageWord(4, 0),
	})
}

// TestMapOneByOne: in several calls the same tables come, if the first indexes
// come in that order.
func TestMapOneByOne(t *testing.T) {
	l := []api.Range{some(7*bigPage-pageSize, 0, 2, 1), one(bigPage, 0, 3), some(6*bigPage, 9*pageSize, 5, 5), one(0, 0, 4)}
	m, a, s := build(t, 12)
	wantMapped(t, s, l...)
	n, b, u := build(t, 12)
	for _, r := range l {
		wantMapped(t, u, r)
	}
	if !m.Equal(n) || a.Left() != b.Left() {
		t.Error("one by one it is another memory")
	}
}

// TestMapOverSeveral: a range over five first indexes, one of which has a table
// already.
func TestMapOverSeveral(t *testing.T) {
	m, a, s := build(t, 12)
	m.Fill(0, pageSize, 0)
	setWord(t, m, s.Root()+4*2, tableWord(0))
	was, words := content(t, m), map[uint32]uint32{}
	told := map[uint32]uint32{1: 9, 2: 0, 3: 10, 4: 11, 5: 12}
	for first, table := range told {
		words[8*pageSize+4*first] = tableWord(table)
	}
	for i := range uint32(mostPages) {
		page := perTable + 24 + i
		words[told[page/perTable]*pageSize+4*(page%perTable)] = pageWord(7, i)
	}
	wantMapped(t, s, some(bigPage+24*pageSize, 0, mostPages, 7))
	wantWords(t, "over several", m, was, []uint32{9 * pageSize, 10 * pageSize, 11 * pageSize, 12 * pageSize}, words)
	wantArena(t, "four tables", a, 7, 5)
	wantRefused(t, a, s, api.ErrTablesThere, some(bigPage, 0, mostPages, 1))
	wantMapped(t, s, some(bigPage, 0, 24, 1), some(5*bigPage+24*pageSize, 0, 1000, 1))
	wantArena(t, "and no more", a, 7, 5)
}

// TestMapIntoOneTable: two first indexes that tell one table: what comes later
// stays.
func TestMapIntoOneTable(t *testing.T) {
	m, a, s := build(t, 4)
	m.Fill(0, pageSize, 0)
	setWord(t, m, s.Root(), tableWord(0))
	setWord(t, m, s.Root()+4, tableWord(0))
	was := content(t, m)
	wantMapped(t, s, some(0, 0, 3, 1), one(bigPage+pageSize, 9*pageSize, 7), one(3*pageSize, 0, 1))
	wantWords(t, "one table", m, was, nil, map[uint32]uint32{0: pageWord(1, 0), 4: pageWord(7, 9), 8: pageWord(1, 2), 12: pageWord(1, 0)})
	wantRefused(t, a, s, api.ErrTablesThere, one(bigPage, 0, 1))
	wantMapped(t, s, one(bigPage+4*pageSize, 5*pageSize, 7))
	wantRefused(t, a, s, api.ErrTablesThere, one(4*pageSize, 0, 1))
}

// TestMapIntoRoot: a root that tells itself as a table: what it told when it
// was asked holds, though its words are written over meanwhile.
func TestMapIntoRoot(t *testing.T) {
	m, a, s := build(t, 4)
	m.Fill(0, pageSize, 0)
	setWord(t, m, s.Root()+4*5, tableWord(8))
	setWord(t, m, s.Root()+4*6, tableWord(0))
	wantRefused(t, a, s, api.ErrTablesThere, one(5*bigPage+5*pageSize, 0, 1))
	wantRefused(t, a, s, api.ErrTablesThere, one(5*bigPage+6*pageSize, 0, 1))
	was := content(t, m)
	wantMapped(t, s,
		some(5*bigPage+7*pageSize, 30*pageSize, 2, 3), // over the root's words 7 and 8
		one(7*bigPage, 50*pageSize, 1),                // the word 7 was none
		one(8*bigPage+pageSize, 51*pageSize, 1),
		one(6*bigPage, 52*pageSize, 1),
	)
	wantWords(t, "into the root", m, was, []uint32{9 * pageSize, 10 * pageSize}, map[uint32]uint32{
		8*pageSize + 4*7: pageWord(3, 30), 8*pageSize + 4*8: pageWord(3, 31),
		9 * pageSize: pageWord(1, 50), 10*pageSize + 4: pageWord(1, 51), 0: pageWord(1, 52),
	})
	wantArena(t, "into the root", a, 1, 3)
}

// TestMapIntoWhatIsTaken: a root that tells a page as a table which the arena
// gives in the same call: that page is put to 0 ahead of all pages' words.
func TestMapIntoWhatIsTaken(t *testing.T) {
	m, a, s := build(t, 4)
	setWord(t, m, s.Root(), tableWord(9))
	wantRefused(t, a, s, api.ErrTablesThere, one(0, 0, 1), one(bigPage, 0, 1)) // it is not 0 yet
	setWord(t, m, 9*pageSize, 0)
	was := content(t, m)
	wantMapped(t, s, one(0, 20*pageSize, 1), one(bigPage+pageSize, 21*pageSize, 1))
	wantWords(t, "into what is taken", m, was, []uint32{9 * pageSize}, map[uint32]uint32{
		8*pageSize + 4: tableWord(9), 9 * pageSize: pageWord(1, 20), 9*pageSize + 4: pageWord(1, 21),
	})
}

// TestMapAtFrameNought: an arena from the memory's first page on: tables and
// roots at the address 0 are none the less for that.
func TestMapAtFrameNought(t *testing.T) {
	m := newMemory(t, 4)
	a := newArena(t, m, 0, 3)
	s := newSpace(t, a)
	wantMapped(t, s, one(0, 0, 1), one(bigPage, pageSize, 1))
	wantWord(t, m, 0, tableWord(1))
	wantWord(t, m, 4, tableWord(2))
	wantMapped(t, s, one(pageSize, 0, 1))

	m = newMemory(t, 4)
	s = newSpace(t, newArena(t, m, pageSize, 1))
	setWord(t, m, pageSize, tableWord(0))
	wantMapped(t, s, one(0, 0, 1), one(pageSize, 0, 1))
	wantWord(t, m, 0, pageWord(1, 0))
	wantWord(t, m, 4, pageWord(1, 0))
}

// TestMapAll: all addresses of a cell, in one call.
func TestMapAll(t *testing.T) {
	m := newMemory(t, 1025)
	a := newArena(t, m, 0, 1025)
	s := newSpace(t, a)
	var l []api.Range
	for i := range uint32(256) {
		l = append(l, some(i*mostPages*pageSize, 0, mostPages, 7))
	}
	wantMapped(t, s, l...)
	wantArena(t, "all", a, 0, 1025)
	if got := tables.Ranges(m, s.Root()); !slices.Equal(got, l) {
		t.Errorf("Ranges tells %d ranges", len(got))
	}
	wantRefused(t, a, s, api.ErrTablesThere, one(0, 0, 1))
	wantRefused(t, a, s, api.ErrTablesThere, l...)
}

// TestMapList: what is handed in is neither changed nor kept, nor is what
// stands behind it.
func TestMapList(t *testing.T) {
	m, a, s := build(t, 9)
	back := []api.Range{one(bigPage, 0, 1), some(0, pageSize, 3, 5), one(4*bigPage, 0, 7), one(3, 3, 3)}
	kept := slices.Clone(back)
	check := func(what string) {
		t.Helper()
		if !slices.Equal(back, kept) {
			t.Errorf("%s has changed the list to %x", what, back)
		}
	}
	if n := tables.Need(back[:2]...); n != 3 {
		t.Errorf("Need = %d, want 3", n)
	}
	check("Need")
	wantMapped(t, s, back[:2]...)
	check("Map")
	wantRefused(t, a, s, api.ErrTablesThere, back[:2]...)
	wantRefused(t, a, s, api.ErrTablesArg, back...)
	tables.Need(back...)
	check("Map that was refused")
	spoil(back)
	if l := tables.Ranges(m, s.Root()); !slices.Equal(l, []api.Range{kept[1], kept[0]}) {
		t.Errorf("Ranges tells %x", l)
	}
	wantRefused(t, a, s, api.ErrTablesThere, kept[:2]...)
}
