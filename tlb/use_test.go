package tlb_test

import (
	"cmp"
	"math/rand"
	"slices"
	"testing"

	"cloister/api"
	"cloister/tlb"
)

func TestLook(t *testing.T) {
	for _, s := range odd() {
		x := load(t, 8, odd()...)
		rest := slices.DeleteFunc(odd(), func(o api.Slot) bool { return o == s })
		wantLook(t, x, s.Tag, s.Mapping, true)
		wantSlots(t, "looked for", x, append([]api.Slot{s}, rest...)...)
		wantLook(t, x, s.Tag, s.Mapping, true)
		wantSlots(t, "looked for twice", x, append([]api.Slot{s}, rest...)...)
	}
}

// TestLookForNone: tags that have but a part in common with one that is
// there; nothing changes.
func TestLookForNone(t *testing.T) {
	l := []api.Slot{slot(1, 2, 3, 7), slot(2, 4, 5, 7), slot(0, 9, 1, 7)}
	for slots := 3; slots <= 5; slots++ {
		x := load(t, slots, l...)
		for _, a := range []api.Tag{{}, tag(1, 4), tag(2, 2), tag(1, 3), tag(0, 2), tag(-1, 2), tag(1<<32+1, 2), tag(1, 1<<31+2)} {
			wantLook(t, x, a, api.Mapping{}, false)
			wantSlots(t, "looked for none", x, l...)
		}
		if slots > 3 {
			wantPut(t, x, slot(7, 7, 7, 7))
		} else {
			wantPutFor(t, x, slot(7, 7, 7, 7), l[2].Tag)
		}
	}
	wantLook(t, newTLB(t, 1), api.Tag{}, api.Mapping{}, false)
}

// TestLookForNoughts: what was put under a tag of noughts, and a mapping of
// noughts, are there as others are.
func TestLookForNoughts(t *testing.T) {
	x := newTLB(t, 2)
	wantLook(t, x, api.Tag{}, api.Mapping{}, false)
	wantPut(t, x, api.Slot{})
	wantLook(t, x, api.Tag{}, api.Mapping{}, true)
	wantSlots(t, "noughts", x, api.Slot{})
	wantPut(t, x, slot(1, 1, 1, 1))
	wantPutFor(t, x, slot(2, 2, 2, 2), api.Tag{})
	wantLook(t, x, api.Tag{}, api.Mapping{}, false)
	wantPutFor(t, x, api.Slot{}, tag(1, 1))
	wantDrop(t, x, api.Tag{}, true)
	wantDrop(t, x, api.Tag{}, false)
}

// TestPutFree: into free slots, of each number of slots; only then one goes.
func TestPutFree(t *testing.T) {
	for slots := 1; slots <= mostSlots; slots++ {
		x := newTLB(t, slots)
		l := row(4, slots)
		for i, s := range l {
			wantPut(t, x, s)
			wantSlots(t, "put", x, reversed(l[:i+1])...)
		}
		for i := range slots {
			wantPutFor(t, x, slot(5, uint32(i), 1, 1), l[i].Tag)
			if x.Len() != slots {
				t.Errorf("Len() = %d, want %d", x.Len(), slots)
			}
		}
		wantPutFor(t, x, slot(6, 0, 1, 1), tag(5, 0))
	}
}

// TestPutAgain: under a tag that is there: none goes, whether slots are free or
// not; the new mapping takes the place of the old one, and is used last.
func TestPutAgain(t *testing.T) {
	for slots := 4; slots <= 5; slots++ {
		for i := range 4 {
			l := row(1, 4)
			x := load(t, slots, l...)
			s := slot(1, uint32(i), 999, 6)
			wantPut(t, x, s)
			rest := slices.Delete(l, i, i+1)
			wantSlots(t, "put again", x, append([]api.Slot{s}, rest...)...)
			wantPut(t, x, s)
			wantSlots(t, "put again", x, append([]api.Slot{s}, rest...)...)
			wantLook(t, x, s.Tag, mapping(999, 6), true)
		}
	}
}

// TestPutIntoOne: of one slot.
func TestPutIntoOne(t *testing.T) {
	x := newTLB(t, 1)
	wantPut(t, x, slot(1, 1, 1, 1))
	wantPut(t, x, slot(1, 1, 2, 3))
	wantSlots(t, "one slot", x, slot(1, 1, 2, 3))
	wantPutFor(t, x, slot(1, 2, 4, 4), tag(1, 1))
	wantLook(t, x, tag(1, 1), api.Mapping{}, false)
	wantPutFor(t, x, slot(2, 2, 5, 4), tag(1, 2))
	wantSlots(t, "one slot", x, slot(2, 2, 5, 4))
}

// TestWhatGoes: of each order in which four are used again, by Look or by Put,
// the one that was used least recently goes.
func TestWhatGoes(t *testing.T) {
	for _, order := range orders(4) {
		for puts := range 16 {
			x := load(t, 4, row(1, 4)...)
			for _, i := range order {
				a := tag(1, uint32(i))
				if puts>>i&1 == 1 {
					wantPut(t, x, api.Slot{Tag: a, Mapping: mapping(50, 1)})
				} else {
					wantLook(t, x, a, row(1, 4)[i].Mapping, true)
				}
			}
			for n, i := range order {
				wantPutFor(t, x, slot(2, uint32(n), 1, 1), tag(1, uint32(i)))
			}
		}
	}
}

// orders are all orders of n things.
func orders(n int) [][]int {
	if n == 0 {
		return [][]int{{}}
	}
	var all [][]int
	for _, o := range orders(n - 1) {
		for at := range n {
			all = append(all, slices.Insert(slices.Clone(o), at, n-1))
		}
	}
	return all
}

// TestCellsApart: the same page of two cells is two mappings.
func TestCellsApart(t *testing.T) {
	x := newTLB(t, 4)
	wantPut(t, x, slot(1, 7, 10, 1))
	wantLook(t, x, tag(2, 7), api.Mapping{}, false)
	wantPut(t, x, slot(2, 7, 20, 3))
	wantLook(t, x, tag(1, 7), mapping(10, 1), true)
	wantLook(t, x, tag(2, 7), mapping(20, 3), true)
	wantPut(t, x, slot(1, 7, 11, 5))
	wantLook(t, x, tag(2, 7), mapping(20, 3), true)
	wantDrop(t, x, tag(1, 7), true)
	wantLook(t, x, tag(2, 7), mapping(20, 3), true)
	wantLook(t, x, tag(1, 7), api.Mapping{}, false)
}

// use is a use of a tag: was it found?
func use(x *tlb.TLB, s api.Slot) bool {
	_, found := x.Look(s.Tag)
	if !found {
		x.Put(s.Tag, s.Mapping)
	}
	return found
}

// TestReuse: a tag is found again if fewer than slots unlike other ones were
// used since, however often these were.
func TestReuse(t *testing.T) {
	for slots := 1; slots <= mostSlots; slots++ {
		for _, others := range []int{0, 1, slots - 2, slots - 1, slots, slots + 1, 2*slots + 1} {
			if others < 0 {
				continue
			}
			for _, times := range []int{1, 3} {
				x := load(t, slots, row(9, slots)...)
				s := slot(1, 1, 5, 5)
				if use(x, s) {
					t.Fatalf("%d slots: found ahead of its first use", slots)
				}
				for _, o := range row(2, others) {
					for range times {
						use(x, o)
					}
				}
				if got, want := use(x, s), others < slots; got != want {
					t.Errorf("%d slots, %d others: found %v, want %v", slots, others, got, want)
				}
			}
		}
	}
}

// TestReuseAtRandom: the rule of reuse, with the past gone through.
func TestReuseAtRandom(t *testing.T) {
	r := rand.New(rand.NewSource(5))
	for slots := 1; slots <= mostSlots; slots++ {
		x := newTLB(t, slots)
		var past []api.Tag
		for i := range 400 {
			s := slot(1+r.Intn(3), uint32(r.Intn(1+slots*2/3)), uint32(i), 1)
			want := usedSince(past, s.Tag) < slots
			if got := use(x, s); got != want {
				t.Fatalf("%d slots, use %d: found %v, want %v", slots, i, got, want)
			}
			past = append(past, s.Tag)
		}
	}
}

// TestReuseWithForgetting: one that was not forgotten is found all the same if
// fewer than slots others were used since; one that was is not.
func TestReuseWithForgetting(t *testing.T) {
	r := rand.New(rand.NewSource(6))
	for slots := 1; slots <= mostSlots; slots++ {
		x := newTLB(t, slots)
		var past []api.Tag
		forgotten := map[api.Tag]int{}
		for i := range 400 {
			s := slot(1+r.Intn(3), uint32(r.Intn(1+slots*2/3)), uint32(i), 1)
			must := usedSince(past, s.Tag) < slots && forgotten[s.Tag] == 0
			got := use(x, s)
			if must && !got || got && forgotten[s.Tag] == 1 {
				t.Fatalf("%d slots, use %d: found %v, forgotten %d", slots, i, got, forgotten[s.Tag])
			}
			past = append(past, s.Tag)
			forgotten[s.Tag] = 0
			if a := tag(1+r.Intn(3), uint32(r.Intn(1+slots*2/3))); r.Intn(5) == 0 {
				x.Drop(a)
				forgotten[a] = 1
			}
			if cell := 1 + r.Intn(3); r.Intn(30) == 0 {
				x.FlushCell(cell)
				for _, a := range past {
					if a.Cell == cell {
						forgotten[a] = 1
					}
				}
			}
		}
	}
}

// usedSince is how many unlike other tags were used since a tag was; more than
// may be if it never was.
func usedSince(past []api.Tag, a api.Tag) int {
	others := map[api.Tag]int{}
	for _, b := range slices.Backward(past) {
		if a == b {
			return len(others)
		}
		others[b] = 1
	}
	return mostSlots + 1
}

// model is a TLB by another way: slots with the time of their use.
type model struct {
	slots, time int
	used        map[api.Tag]int
	mappings    map[api.Tag]api.Mapping
}

func newModel(slots int) *model {
	return &model{slots: slots, used: map[api.Tag]int{}, mappings: map[api.Tag]api.Mapping{}}
}

func (m *model) all() []api.Slot {
	var l []api.Slot
	for a := range m.used {
		l = append(l, api.Slot{Tag: a, Mapping: m.mappings[a]})
	}
	slices.SortFunc(l, func(a, b api.Slot) int { return cmp.Compare(m.used[b.Tag], m.used[a.Tag]) })
	return l
}

func (m *model) put(s api.Slot) (api.Tag, bool) {
	var gone api.Tag
	went := false
	if m.used[s.Tag] == 0 && len(m.used) == m.slots {
		all := m.all()
		gone, went = all[len(all)-1].Tag, true
		delete(m.used, gone)
	}
	m.time++
	m.used[s.Tag], m.mappings[s.Tag] = m.time, s.Mapping
	return gone, went
}

func (m *model) forget(goes func(api.Tag) bool) int {
	n := 0
	for a := range m.used {
		if goes(a) {
			delete(m.used, a)
			n++
		}
	}
	return n
}

// TestAgainstModel: calls of all kinds, and what is told behind each of them;
// now and then it goes on with one that was loaded.
func TestAgainstModel(t *testing.T) {
	r := rand.New(rand.NewSource(7))
	for _, slots := range []int{1, 2, 3, 4, 5, 8, 16, 33, 63, 64} {
		x, m := newTLB(t, slots), newModel(slots)
		for i := range 3000 {
			s := slot(r.Intn(4)-1, uint32(r.Intn(1+slots/2)), uint32(i), api.Perm(r.Intn(8)))
			step(t, r, x, m, s)
			if r.Intn(50) == 0 {
				x = load(t, slots, x.Slots()...)
			}
			if wantSlots(t, "against the model", x, m.all()...); t.Failed() {
				t.Fatalf("%d slots, call %d", slots, i)
			}
		}
	}
}

// step does one call with both.
func step(t *testing.T, r *rand.Rand, x *tlb.TLB, m *model, s api.Slot) {
	t.Helper()
	switch n := r.Intn(100); {
	case n < 50:
		if gone, went := m.put(s); went {
			wantPutFor(t, x, s, gone)
		} else {
			wantPut(t, x, s)
		}
	case n < 85:
		if m.used[s.Tag] == 0 {
			wantLook(t, x, s.Tag, api.Mapping{}, false)
		} else {
			wantLook(t, x, s.Tag, m.mappings[s.Tag], true)
			m.time++
			m.used[s.Tag] = m.time
		}
	case n < 95:
		wantDrop(t, x, s.Tag, m.forget(func(a api.Tag) bool { return a == s.Tag }) == 1)
	case n < 99:
		cells := []int{r.Intn(5) - 1, r.Intn(5) - 1}[:r.Intn(3)]
		wantFlushCell(t, x, m.forget(func(a api.Tag) bool { return slices.Contains(cells, a.Cell) }), cells...)
	default:
		wantFlush(t, x, m.forget(func(api.Tag) bool { return true }))
	}
}

// TestGoesOn: one that was loaded of what another one tells goes on as that
// one does.
func TestGoesOn(t *testing.T) {
	r := rand.New(rand.NewSource(8))
	for slots := 1; slots <= mostSlots; slots++ {
		x := newTLB(t, slots)
		for i := range 2 * slots {
			x.Put(tag(r.Intn(2), uint32(r.Intn(2*slots))), mapping(uint32(i), 1))
		}
		if slots%3 == 0 {
			x.FlushCell(1)
		}
		y := load(t, slots, x.Slots()...)
		for i := range 3 * slots {
			s := slot(r.Intn(2), uint32(r.Intn(2*slots)), uint32(i), 2)
			m, found := x.Look(s.Tag)
			wantLook(t, y, s.Tag, m, found)
			gone, went := x.Put(s.Tag, s.Mapping)
			if a, b := y.Put(s.Tag, s.Mapping); a != gone || b != went {
				t.Fatalf("%d slots: Put(%v) = %v, %v, want %v, %v", slots, s, a, b, gone, went)
			}
			wantSlots(t, "loaded", y, x.Slots()...)
		}
	}
}
