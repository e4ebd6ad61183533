package tables_test

import (
	"iter"
	"slices"
	"testing"

	"cloister/api"
	"cloister/memory"
	"cloister/tables"
)

// told is a page that All tells.
type told struct {
	at uint32
	x  api.Entry
}

func page(at uint32, p api.Perm, frame uint32) told {
	return told{at, api.Entry{Kind: api.EntryPage, Perm: p, Frame: frame}}
}

// collect is what is told, the first n of it.
func collect(all iter.Seq2[uint32, api.Entry], n int) []told {
	var l []told
	for at, x := range all {
		l = append(l, told{at, x})
		if len(l) == n {
			break
		}
	}
	return l
}

const many = 1 << 21 // more than all pages of a cell

func wantTold(t *testing.T, what string, got []told, want ...told) {
	t.Helper()
	if !slices.Equal(got, want) {
		t.Errorf("%s: told is %x, want %x", what, got, want)
	}
}

func wantRanges(t *testing.T, what string, m *memory.Memory, root uint32, want ...api.Range) {
	t.Helper()
	if l := tables.Ranges(m, root); !slices.Equal(l, want) {
		t.Errorf("%s: Ranges = %x, want %x", what, l, want)
	}
}

// mixed is a memory of eight pages with a root at 8192 and three tables, and
// the pages that they tell.
func mixed(t *testing.T) (*memory.Memory, []told) {
	t.Helper()
	m := newMemory(t, 8)
	for at, w := range map[uint32]uint32{
		8192: tableWord(3), 8192 + 4*5: tableWord(4), 8192 + 4*1023: tableWord(0),
		3 * pageSize: pageWord(1, 6), 3*pageSize + 4*9: pageWord(7, 0), 3*pageSize + 4*1023: pageWord(4, 4095),
		4*pageSize + 4: pageWord(5, 3), 4*pageSize + 8: pageWord(3, 4),
		0: pageWord(1, 1), 4 * 1023: pageWord(1, 2),
	} {
		setWord(t, m, at, w)
	}
	return m, []told{
		page(0, 1, 6), page(9*pageSize, 7, 0), page(bigPage-pageSize, 4, 4095),
		page(5*bigPage+pageSize, 5, 3), page(5*bigPage+2*pageSize, 3, 4),
		page(1<<32-bigPage, 1, 1), page(lastPage, 1, 2),
	}
}

func TestAll(t *testing.T) {
	m, want := mixed(t)
	before := m.Clone()
	wantTold(t, "mixed", collect(tables.All(m, 8192), many), want...)
	if !before.Equal(m) {
		t.Error("All has written")
	}
	m, _, s := build(t, 9)
	wantTold(t, "a new one", collect(tables.All(m, s.Root()), many))
	wantMapped(t, s, one(7*bigPage, 5*pageSize, 1), some(bigPage-pageSize, 20*pageSize, 3, 5), one(0, 4095*pageSize, 4))
	wantTold(t, "mapped", collect(tables.All(m, s.Root()), many), page(0, 4, 4095), page(bigPage-pageSize, 5, 20), page(bigPage, 5, 21), page(bigPage+pageSize, 5, 22), page(7*bigPage, 1, 5))
}

// TestAllPassesOver: whatever else stands there.
func TestAllPassesOver(t *testing.T) {
	m, want := mixed(t)
	others := append([]uint32{tableWord(8), tableWord(9), tableWord(4095)}, malformed...) // tables outside, too
	for i, w := range append(others, pageWord(1, 3), pageWord(7, 4095)) {
		setWord(t, m, 8192+4*(6+uint32(i)), w)
	}
	for i, w := range append(malformed, tableWord(3), tableWord(4), tableWord(8), tableWord(4095)) {
		setWord(t, m, 4*pageSize+4*(3+uint32(i)), w)
		setWord(t, m, 4*(1+uint32(i)), w)
	}
	wantTold(t, "with others", collect(tables.All(m, 8192), many), want...)
	wantRanges(t, "with others", m, 8192,
		one(0, 6*pageSize, 1), one(9*pageSize, 0, 7), one(bigPage-pageSize, lastFrame, 4),
		one(5*bigPage+pageSize, 3*pageSize, 5), one(5*bigPage+2*pageSize, 4*pageSize, 3),
		one(1<<32-bigPage, pageSize, 1), one(lastPage, 2*pageSize, 1))
}

// TestAllOfNothing: of no memory, and of roots that do not lie in one, though
// it has tables at its beginning.
func TestAllOfNothing(t *testing.T) {
	m := newMemory(t, 2)
	for i := range uint32(2 * perTable) {
		setWord(t, m, 4*i, []uint32{tableWord(1), pageWord(1, 0)}[i/perTable])
	}
	for _, c := range []struct {
		m    *memory.Memory
		root uint32
	}{
		{nil, 0}, {nil, 1}, {nil, 4096}, {nil, 1<<32 - 1},
		{m, 2 * pageSize}, {m, 3 * pageSize}, {m, 1 << 24}, {m, 1 << 31}, {m, lastPage}, {m, 1<<32 - 4092}, {m, 1<<32 - 4},
		{m, 1}, {m, 2}, {m, 3}, {m, 2*pageSize - 1}, {m, 2*pageSize - 2}, {m, 1<<32 - 1}, {m, 1<<32 - 2}, {m, 1<<32 - 3},
		{m, pageSize},
	} {
		all := tables.All(c.m, c.root)
		if all == nil {
			t.Fatal("All is nil")
		}
		wantTold(t, "nothing", collect(all, many))
		wantTold(t, "nothing, again", collect(all, many))
		wantRanges(t, "nothing", c.m, c.root)
	}
}

// TestAllOfOddRoots: words at a root that is no page's address, and only those
// that lie in the memory.
func TestAllOfOddRoots(t *testing.T) {
	m := newMemory(t, 4)
	setWord(t, m, 0, pageWord(7, 3))
	setWord(t, m, 4*1023, pageWord(7, 4))
	setWord(t, m, 3*pageSize-4, tableWord(0))
	setWord(t, m, 4*pageSize-4, tableWord(0))
	for _, c := range []struct {
		root   uint32
		firsts []uint32
	}{
		{2*pageSize + 4, []uint32{1022}},
		{3*pageSize - 4, []uint32{0}},
		{3 * pageSize, []uint32{1023}},
		{3*pageSize - 8, []uint32{1}},
		{4*pageSize - 2048, []uint32{511}},
		{4*pageSize - 8, []uint32{1}},
		{4*pageSize - 4, []uint32{0}},
		{4 * pageSize, nil},
	} {
		var want []told
		var ranges []api.Range
		for _, i := range c.firsts {
			want = append(want, page(i*bigPage, 7, 3), page((i+1)*bigPage-pageSize, 7, 4))
			ranges = append(ranges, one(i*bigPage, 3*pageSize, 7), one((i+1)*bigPage-pageSize, 4*pageSize, 7))
		}
		wantTold(t, "an odd root", collect(tables.All(m, c.root), many), want...)
		wantRanges(t, "an odd root", m, c.root, ranges...)
	}
}

// TestAllOfOneTable: which all of the root's words tell, the root itself, and
// the memory's only page.
func TestAllOfOneTable(t *testing.T) {
	m := newMemory(t, 1)
	for i := range uint32(perTable) {
		setWord(t, m, 4*i, tableWord(0))
	}
	setWord(t, m, 4*7, pageWord(3, 4095))
	var want []told
	for i := range uint32(perTable) {
		if i != 7 {
			want = append(want, page(i*bigPage+7*pageSize, 3, 4095))
		}
	}
	wantTold(t, "one table", collect(tables.All(m, 0), many), want...)
	if n := len(tables.Ranges(m, 0)); n != 1023 {
		t.Errorf("Ranges tells %d, want 1023", n)
	}
}

// TestAllPages: all that there can be.
func TestAllPages(t *testing.T) {
	m := newMemory(t, 2)
	for i := range uint32(perTable) {
		setWord(t, m, 4*i, tableWord(1))
		setWord(t, m, pageSize+4*i, pageWord(1, 4095-i))
	}
	n := uint32(0)
	for at, x := range tables.All(m, 0) {
		if at != n*pageSize || x != (api.Entry{Kind: api.EntryPage, Perm: 1, Frame: 4095 - n%perTable}) {
			t.Fatalf("number %d is %x, %v", n, at, x)
		}
		n++
	}
	if n != 1<<20 {
		t.Errorf("%d pages are told, want %d", n, 1<<20)
	}
}

func TestAllLeftEarly(t *testing.T) {
	m, want := mixed(t)
	all := tables.All(m, 8192)
	for n := 1; n <= len(want); n++ {
		wantTold(t, "left early", collect(all, n), want[:n]...)
	}
	wantTold(t, "ranged over again", collect(all, many), want...)
	for n := range len(want) {
		calls := 0
		all(func(uint32, api.Entry) bool { calls++; return calls <= n })
		if calls != n+1 {
			t.Errorf("left behind page %d, and %d were told", n+1, calls)
		}
	}
}

// TestAllWithin: ranged over within a range of itself.
func TestAllWithin(t *testing.T) {
	m, want := mixed(t)
	all := tables.All(m, 8192)
	n := 0
	for at, x := range all {
		wantTold(t, "within", collect(all, many), want...)
		wantTold(t, "within, left early", collect(all, 4), want[:4]...)
		if want[n] != (told{at, x}) {
			t.Errorf("told is %x, %v, want %v", at, x, want[n])
		}
		n++
	}
	if n != len(want) {
		t.Errorf("%d were told, want %d", n, len(want))
	}
}

// TestAllByTurns: two that are pulled by turns.
func TestAllByTurns(t *testing.T) {
	m, want := mixed(t)
	all := tables.All(m, 8192)
	a, stopA := iter.Pull2(all)
	b, stopB := iter.Pull2(all)
	defer stopA()
	defer stopB()
	for _, w := range want {
		for _, next := range []func() (uint32, api.Entry, bool){a, b} {
			if at, x, ok := next(); !ok || w != (told{at, x}) {
				t.Errorf("told is %x, %v, %v, want %v", at, x, ok, w)
			}
		}
	}
	if _, _, ok := a(); ok {
		t.Error("more are told")
	}
}

// changes are done to a mixed memory, and what All tells behind them.
var changes = []struct {
	what  string
	do    func(m *memory.Memory)
	pages []told
}{
	{"a page goes", func(m *memory.Memory) { m.Store(4*pageSize+8, 4, 0) }, []told{page(0, 1, 6), page(9*pageSize, 7, 0), page(bigPage-pageSize, 4, 4095), page(5*bigPage+pageSize, 5, 3), page(1<<32-bigPage, 1, 1), page(lastPage, 1, 2)}},
	{"a table goes", func(m *memory.Memory) { m.Store(8192+4*5, 4, 0) }, []told{page(0, 1, 6), page(9*pageSize, 7, 0), page(bigPage-pageSize, 4, 4095), page(1<<32-bigPage, 1, 1), page(lastPage, 1, 2)}},
	{"tables are told elsewhere", func(m *memory.Memory) {
		m.Store(8192, 4, 0)
		m.Store(8192+4*1023, 4, tableWord(4))
	}, []told{page(5*bigPage+pageSize, 5, 3), page(5*bigPage+2*pageSize, 3, 4), page(1<<32-bigPage+pageSize, 5, 3), page(1<<32-bigPage+2*pageSize, 3, 4)}},
	{"a page comes", func(m *memory.Memory) {
		m.Write(3*pageSize+4092, []byte{0x03, 0x10, 0, 0, 0x03, 0x20, 0, 0})
	}, []told{page(0, 1, 6), page(9*pageSize, 7, 0), page(bigPage-pageSize, 1, 1), page(5*bigPage, 1, 2), page(5*bigPage+pageSize, 5, 3), page(5*bigPage+2*pageSize, 3, 4), page(1<<32-bigPage, 1, 1), page(lastPage, 1, 2)}},
	{"all goes", func(m *memory.Memory) { m.Fill(0, 8*pageSize, 0) }, nil},
}

// TestAllChanged: what is done between the making of an iterator and its
// ranging is seen, what is done meanwhile is not, and then it is.
func TestAllChanged(t *testing.T) {
	for _, c := range changes {
		m, want := mixed(t)
		all := tables.All(m, 8192)
		c.do(m)
		wantTold(t, c.what+" ahead of it", collect(all, many), c.pages...)

		for when := range want {
			m, want = mixed(t)
			all = tables.All(m, 8192)
			var got []told
			for at, x := range all {
				if got = append(got, told{at, x}); len(got) == when+1 {
					c.do(m)
					wantTold(t, c.what+" meanwhile, within", collect(all, many), c.pages...)
				}
			}
			wantTold(t, c.what+" meanwhile", got, want...)
			wantTold(t, c.what+", again", collect(all, many), c.pages...)
		}
	}
}

// TestRangesJoined: a page is in the range of the one ahead of it just if
// address, frame and Perm are the next ones.
func TestRangesJoined(t *testing.T) {
	at := uint32(bigPage - 2*pageSize)
	for _, c := range []struct {
		what string
		l    []api.Range // as they are mapped
		want []api.Range
	}{
		{"nothing", nil, nil},
		{"one", []api.Range{one(at, 0, 1)}, []api.Range{one(at, 0, 1)}},
		{"the next one", []api.Range{one(at, 0, 1), one(at+pageSize, pageSize, 1)}, []api.Range{some(at, 0, 2, 1)}},
		{"over the edge of a table", []api.Range{one(at+pageSize, 0, 1), one(at+2*pageSize, pageSize, 1)}, []api.Range{some(at+pageSize, 0, 2, 1)}},
		{"three, mapped in another order", []api.Range{one(at+2*pageSize, 2*pageSize, 5), one(at, 0, 5), one(at+pageSize, pageSize, 5)}, []api.Range{some(at, 0, 3, 5)}},
		{"another Perm", []api.Range{one(at, 0, 1), one(at+pageSize, pageSize, 3)}, []api.Range{one(at, 0, 1), one(at+pageSize, pageSize, 3)}},
		{"the same frame", []api.Range{one(at, 0, 1), one(at+pageSize, 0, 1)}, []api.Range{one(at, 0, 1), one(at+pageSize, 0, 1)}},
		{"a frame further", []api.Range{one(at, 0, 1), one(at+pageSize, 2*pageSize, 1)}, []api.Range{one(at, 0, 1), one(at+pageSize, 2*pageSize, 1)}},
		{"a frame ahead", []api.Range{one(at, pageSize, 1), one(at+pageSize, 0, 1)}, []api.Range{one(at, pageSize, 1), one(at+pageSize, 0, 1)}},
		{"from the last frame to the first one", []api.Range{one(at, lastFrame, 1), one(at+pageSize, 0, 1)}, []api.Range{one(at, lastFrame, 1), one(at+pageSize, 0, 1)}},
		{"a page between", []api.Range{one(at, 0, 1), one(at+2*pageSize, pageSize, 1)}, []api.Range{one(at, 0, 1), one(at+2*pageSize, pageSize, 1)}},
		{"a page and a frame between", []api.Range{one(at, 0, 1), one(at+2*pageSize, 2*pageSize, 1)}, []api.Range{one(at, 0, 1), one(at+2*pageSize, 2*pageSize, 1)}},
		{"the last page and the first one", []api.Range{one(lastPage, 0, 1), one(0, pageSize, 1)}, []api.Range{one(0, pageSize, 1), one(lastPage, 0, 1)}},
		{"the last pages", []api.Range{one(lastPage, pageSize, 1), one(lastPage-pageSize, 0, 1)}, []api.Range{some(lastPage-pageSize, 0, 2, 1)}},
		{"a break, and on", []api.Range{some(at, 0, 2, 1), one(at+2*pageSize, 2*pageSize, 3), some(at+3*pageSize, 3*pageSize, 9, 1)}, []api.Range{some(at, 0, 2, 1), one(at+2*pageSize, 2*pageSize, 3), some(at+3*pageSize, 3*pageSize, 9, 1)}},
		{"as long as may be", []api.Range{some(at, 0, 2000, 1), some(at+2000*pageSize, 2000*pageSize, 2096, 1)}, []api.Range{some(at, 0, 4096, 1)}},
		{"from anew at the last frame", []api.Range{some(at, 0, 4096, 1), some(at+4096*pageSize, 0, 7, 1)}, []api.Range{some(at, 0, 4096, 1), some(at+4096*pageSize, 0, 7, 1)}},
	} {
		m, _, s := build(t, 9)
		wantMapped(t, s, c.l...)
		wantRanges(t, c.what, m, s.Root(), c.want...)
	}
}

// TestRangesList: it is new memory, and so is what stands behind it.
func TestRangesList(t *testing.T) {
	m, _, s := build(t, 9)
	wantMapped(t, s, one(0, 0, 1), one(pageSize, 0, 1), one(5*pageSize, 0, 1))
	a, b := tables.Ranges(m, s.Root()), tables.Ranges(m, s.Root())
	want := slices.Clone(a)
	before := m.Clone()
	spoil(append(a, api.Range{}))
	spoil(a)
	if !slices.Equal(b, want) {
		t.Errorf("another list has become %x", b)
	}
	wantRanges(t, "spoilt", m, s.Root(), want...)
	if !before.Equal(m) {
		t.Error("the memory is another one")
	}
}
