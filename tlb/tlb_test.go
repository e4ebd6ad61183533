package tlb_test

import (
	"math"
	"slices"
	"testing"

	"cloister/api"
	"cloister/tlb"
)

const mostSlots = 64

func tag(cell int, page uint32) api.Tag { return api.Tag{Cell: cell, Page: page} }

func mapping(frame uint32, p api.Perm) api.Mapping { return api.Mapping{Frame: frame, Perm: p} }

func slot(cell int, page, frame uint32, p api.Perm) api.Slot {
	return api.Slot{Tag: tag(cell, page), Mapping: mapping(frame, p)}
}

// row is so many slots of one cell, from the page 0 on.
func row(cell, n int) []api.Slot {
	var l []api.Slot
	for page := range uint32(n) {
		l = append(l, slot(cell, page, 100+page, api.Perm(page%8)))
	}
	return l
}

// odd are slots whose tags and mappings have the bounds of their numbers.
func odd() []api.Slot {
	return []api.Slot{
		slot(0, 0, 0, 0),
		slot(math.MaxInt, math.MaxUint32, math.MaxUint32, math.MaxUint8),
		slot(math.MinInt, 0, 1, 8),
		slot(-1, math.MaxUint32, 0, 255),
		slot(-1, 1<<31, 1<<31, 0),
		slot(1<<32, 0, 4096, 2), // no other cell's page, though 32 bits of it are 0
		slot(0, 1, 0, 0),
		slot(1, 0, 0, 0),
	}
}

func newTLB(t *testing.T, slots int) *tlb.TLB {
	t.Helper()
	x, e := tlb.New(slots)
	if x == nil || e != api.OK {
		t.Fatalf("New(%d) = %v, %d", slots, x, e)
	}
	return x
}

func load(t *testing.T, slots int, l ...api.Slot) *tlb.TLB {
	t.Helper()
	x, e := tlb.Load(slots, l...)
	if x == nil || e != api.OK {
		t.Fatalf("Load(%d, %v) = %v, %d", slots, l, x, e)
	}
	return x
}

func wantLook(t *testing.T, x *tlb.TLB, a api.Tag, want api.Mapping, there bool) {
	t.Helper()
	if m, is := x.Look(a); m != want || is != there {
		t.Errorf("Look(%v) = %v, %v, want %v, %v", a, m, is, want, there)
	}
}

// wantPut puts one in, for which none may go.
func wantPut(t *testing.T, x *tlb.TLB, s api.Slot) {
	t.Helper()
	if gone, went := x.Put(s.Tag, s.Mapping); gone != (api.Tag{}) || went {
		t.Errorf("Put(%v) = %v, %v, want none to go", s, gone, went)
	}
}

// wantPutFor puts one in, for which another one must go.
func wantPutFor(t *testing.T, x *tlb.TLB, s api.Slot, want api.Tag) {
	t.Helper()
	if gone, went := x.Put(s.Tag, s.Mapping); gone != want || !went {
		t.Errorf("Put(%v) = %v, %v, want %v, true", s, gone, went, want)
	}
}

func wantDrop(t *testing.T, x *tlb.TLB, a api.Tag, want bool) {
	t.Helper()
	if got := x.Drop(a); got != want {
		t.Errorf("Drop(%v) = %v, want %v", a, got, want)
	}
}

func wantFlush(t *testing.T, x *tlb.TLB, want int) {
	t.Helper()
	if got := x.Flush(); got != want {
		t.Errorf("Flush() = %d, want %d", got, want)
	}
}

func wantFlushCell(t *testing.T, x *tlb.TLB, want int, cells ...int) {
	t.Helper()
	if got := x.FlushCell(cells...); got != want {
		t.Errorf("FlushCell(%v) = %d, want %d", cells, got, want)
	}
}

// wantSlots: all ways to ask what is there must tell this.
func wantSlots(t *testing.T, what string, x *tlb.TLB, want ...api.Slot) {
	t.Helper()
	if got := ranged(x); !slices.Equal(got, want) {
		t.Errorf("%s: All tells %v, want %v", what, got, want)
	}
	if got := x.Slots(); !slices.Equal(got, want) {
		t.Errorf("%s: Slots() = %v, want %v", what, got, want)
	}
	if got := x.Len(); got != len(want) {
		t.Errorf("%s: Len() = %d, want %d", what, got, len(want))
	}
}

// ranged is what All tells.
func ranged(x *tlb.TLB) []api.Slot {
	var l []api.Slot
	for a, m := range x.All() {
		l = append(l, api.Slot{Tag: a, Mapping: m})
	}
	return l
}

// reversed is a list from its end on.
func reversed(l []api.Slot) []api.Slot {
	l = slices.Clone(l)
	slices.Reverse(l)
	return l
}

// spoil writes over a list, and what stands behind it.
func spoil[T any](l []T) {
	clear(l[:cap(l)])
}

func TestBounds(t *testing.T) {
	if api.ErrTLBArg != 50 || api.MaxSlots != mostSlots {
		t.Errorf("ErrTLBArg is %d, MaxSlots %d, want 50, %d", api.ErrTLBArg, api.MaxSlots, mostSlots)
	}
	for n := -3; n <= 2*mostSlots; n++ {
		wantMade(t, n, n >= 1 && n <= mostSlots)
	}
	for _, n := range []int{math.MinInt, math.MinInt + 1, -1 << 32, 1<<32 + 1, 1<<63 - 1, 256 + 1, 1<<16 + 1} {
		wantMade(t, n, false)
	}
}

// wantMade: so many slots may be, or may not be, of New and of Load.
func wantMade(t *testing.T, slots int, may bool) {
	t.Helper()
	wrong := api.Errno(50)
	if may {
		wrong = api.OK
	}
	if x, e := tlb.New(slots); e != wrong || (x != nil) != may {
		t.Errorf("New(%d) = %v, %d, want error %d", slots, x, e, wrong)
	} else if may {
		wantSlots(t, "new", x)
	}
	for _, l := range [][]api.Slot{nil, {}, row(1, 1)} {
		if x, e := tlb.Load(slots, l...); e != wrong || (x != nil) != may {
			t.Errorf("Load(%d, %v) = %v, %d, want error %d", slots, l, x, e, wrong)
		} else if may {
			wantSlots(t, "loaded", x, l...)
		}
	}
}

// TestLoadCount: as many as slots may be loaded, and not one more.
func TestLoadCount(t *testing.T) {
	for slots := 1; slots <= mostSlots; slots++ {
		for _, n := range []int{0, 1, slots - 1, slots} {
			if n <= slots {
				wantSlots(t, "loaded", load(t, slots, row(3, n)...), row(3, n)...)
			}
		}
		for _, n := range []int{slots + 1, slots + 2, 2*slots + 1, 200} {
			wantRefused(t, slots, row(3, n)...)
		}
	}
}

func wantRefused(t *testing.T, slots int, l ...api.Slot) {
	t.Helper()
	if x, e := tlb.Load(slots, l...); x != nil || e != 50 {
		t.Errorf("Load(%d, %v) = %v, %d, want nil, 50", slots, l, x, e)
	}
}

// TestLoadSameTag: of two slots at whatever places; with the same mapping or
// with another one; where there is room for them and where there is not.
func TestLoadSameTag(t *testing.T) {
	for i := range 6 {
		for j := range i {
			l := row(2, 6)
			l[i].Tag = l[j].Tag
			wantRefused(t, 5, l...)
			wantRefused(t, 6, l...)
			wantRefused(t, 64, l...)
			l[i].Mapping = l[j].Mapping
			wantRefused(t, 6, l...)
			wantRefused(t, 64, l...)
		}
	}
	full := row(2, mostSlots)
	full[63].Tag = full[0].Tag
	wantRefused(t, mostSlots, full...)
	wantRefused(t, 2, slot(0, 0, 0, 0), slot(0, 0, 0, 0))
	wantRefused(t, 0, slot(1, 1, 1, 1), slot(1, 1, 1, 1))
}

// TestLoadLikeTags: tags that have the cell or the page alone in common, or
// the same mapping, are not the same.
func TestLoadLikeTags(t *testing.T) {
	l := []api.Slot{slot(1, 2, 3, 4), slot(2, 2, 3, 4), slot(1, 1, 3, 4), slot(2, 1, 3, 4), slot(-1, 2, 3, 4)}
	wantSlots(t, "like tags", load(t, 5, l...), l...)
	wantSlots(t, "odd numbers", load(t, 8, odd()...), odd()...)
}

// TestLoadOrder: what is loaded goes in the order in which it stood, from the
// end on.
func TestLoadOrder(t *testing.T) {
	l := row(1, 5)
	x := load(t, 5, l...)
	for i := range 5 {
		wantPutFor(t, x, slot(2, uint32(i), 7, 1), l[4-i].Tag)
	}
	x = load(t, 6, l...)
	wantPut(t, x, slot(2, 0, 7, 1))
	wantPutFor(t, x, slot(2, 1, 7, 1), l[4].Tag)
}

// TestLoadLeavesAlone: the list that is handed in stays as it is, spare room
// too, and may be changed later.
func TestLoadLeavesAlone(t *testing.T) {
	room := row(1, 8)
	l := room[:4]
	x := load(t, 6, l...)
	x.Look(tag(1, 3))
	x.Put(tag(1, 0), mapping(1, 1))
	x.Put(tag(5, 0), mapping(1, 1))
	x.Drop(tag(1, 1))
	if !slices.Equal(room, row(1, 8)) {
		t.Errorf("the list that was loaded is %v", room)
	}
	want := x.Slots()
	spoil(l)
	wantSlots(t, "the list was changed", x, want...)
	twice := row(1, 4)
	y, z := load(t, 4, twice...), load(t, 4, twice...)
	y.Flush()
	wantSlots(t, "another of the same list", z, row(1, 4)...)
}

func TestExamples(t *testing.T) {
	a, b, c := slot(1, 10, 1, 1), slot(1, 11, 2, 3), slot(1, 12, 3, 5)
	x := newTLB(t, 2)
	wantPut(t, x, a)
	wantPut(t, x, b)
	wantLook(t, x, a.Tag, a.Mapping, true)
	wantPutFor(t, x, c, b.Tag)
	wantSlots(t, "example 1", x, c, a)

	wantLook(t, x, b.Tag, api.Mapping{}, false)
	wantSlots(t, "example 2", x, c, a)

	x = newTLB(t, 4)
	wantPut(t, x, slot(1, 5, 5, 1))
	wantPut(t, x, slot(2, 5, 6, 1))
	wantFlushCell(t, x, 1, 1, 1)
	wantSlots(t, "example 3", x, slot(2, 5, 6, 1))
}

// TestApart: two TLBs know nothing of each other, even where one was made of
// what the other one told.
func TestApart(t *testing.T) {
	x := load(t, 3, row(1, 3)...)
	y := load(t, 3, x.Slots()...)
	z := newTLB(t, 3)
	y.Put(tag(1, 1), mapping(9, 9))
	y.Put(tag(2, 2), mapping(9, 9))
	y.Look(tag(1, 1))
	y.Drop(tag(1, 0))
	wantSlots(t, "the first", x, row(1, 3)...)
	wantSlots(t, "the second", y, slot(1, 1, 9, 9), slot(2, 2, 9, 9))
	wantSlots(t, "the third", z)
	wantLook(t, z, tag(1, 1), api.Mapping{}, false)
	wantFlush(t, x, 3)
	wantSlots(t, "the second", y, slot(1, 1, 9, 9), slot(2, 2, 9, 9))
	wantPut(t, z, slot(1, 1, 4, 4))
	wantFlushCell(t, y, 1, 1)
	wantSlots(t, "the third", z, slot(1, 1, 4, 4))
	wantSlots(t, "the first", x)
}
