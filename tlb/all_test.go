package tlb_test

import (
	"iter"
	"slices"
	"testing"

	"cloister/api"
	"cloister/tlb"
)

// collect is what is told, the first n of it.
func collect(all iter.Seq2[api.Tag, api.Mapping], n int) []api.Slot {
	var l []api.Slot
	for a, m := range all {
		l = append(l, api.Slot{Tag: a, Mapping: m})
		if len(l) == n {
			break
		}
	}
	return l
}

func wantTold(t *testing.T, what string, got []api.Slot, want ...api.Slot) {
	t.Helper()
	if !slices.Equal(got, want) {
		t.Errorf("%s: told is %v, want %v", what, got, want)
	}
}

func TestAllOfNone(t *testing.T) {
	x := newTLB(t, 3)
	if x.All() == nil {
		t.Errorf("All() is nil")
	}
	wantSlots(t, "empty", x)
	x = load(t, 3, row(1, 3)...)
	all := x.All()
	x.Flush()
	wantTold(t, "flushed", collect(all, 9))
}

func TestAllLeftEarly(t *testing.T) {
	x := load(t, 8, mixed()...)
	all := x.All()
	for n := 1; n <= 8; n++ {
		wantTold(t, "left early", collect(all, n), mixed()[:n]...)
	}
	wantTold(t, "ranged over again", collect(all, 9), mixed()...)
	wantSlots(t, "left early", x, mixed()...)
	all(func(api.Tag, api.Mapping) bool { return false })
}

// TestAllWithin: ranged over within a range of itself.
func TestAllWithin(t *testing.T) {
	all := load(t, 8, mixed()...).All()
	n := 0
	for a, m := range all {
		wantTold(t, "within", collect(all, 9), mixed()...)
		wantTold(t, "within, left early", collect(all, 2), mixed()[:2]...)
		if s := mixed()[n]; s.Tag != a || s.Mapping != m {
			t.Errorf("told is %v, %v, want %v", a, m, s)
		}
		n++
	}
	if n != 8 {
		t.Errorf("%d were told, want 8", n)
	}
}

// TestAllSide: two that are pulled by turns.
func TestAllSide(t *testing.T) {
	x := load(t, 8, mixed()...)
	all := x.All()
	next, stop := iter.Pull2(all)
	defer stop()
	other, stopOther := iter.Pull2(all)
	defer stopOther()
	for i, s := range mixed() {
		a, m, ok := next()
		b, n, is := other()
		if a != s.Tag || b != s.Tag || m != s.Mapping || n != s.Mapping || !ok || !is {
			t.Errorf("%d: told is %v, %v and %v, %v, want %v", i, a, m, b, n, s)
		}
	}
	if _, _, ok := next(); ok {
		t.Errorf("more than all is told")
	}
}

// doings are all that can be done meanwhile.
func doings() map[string]func(*tlb.TLB) {
	return map[string]func(*tlb.TLB){
		"Look":      func(x *tlb.TLB) { x.Look(tag(2, 6)) },
		"Put new":   func(x *tlb.TLB) { x.Put(tag(7, 7), mapping(7, 7)) },
		"Put again": func(x *tlb.TLB) { x.Put(tag(3, 5), mapping(70, 7)) },
		"Drop":      func(x *tlb.TLB) { x.Drop(tag(1, 1)) },
		"Flush":     func(x *tlb.TLB) { x.Flush() },
		"FlushCell": func(x *tlb.TLB) { x.FlushCell(2, 3) },
		"refill": func(x *tlb.TLB) {
			x.Flush()
			for _, s := range row(9, 8) {
				x.Put(s.Tag, s.Mapping)
			}
		},
	}
}

// TestAllMeanwhile: what is done while it is ranged over is not seen there,
// but by whoever begins to range over it behind that.
func TestAllMeanwhile(t *testing.T) {
	for what, do := range doings() {
		for at := range 8 {
			for slots := 8; slots <= 9; slots++ {
				x, y := load(t, slots, mixed()...), load(t, slots, mixed()...)
				do(y)
				all := x.All()
				var got []api.Slot
				for a, m := range all {
					got = append(got, api.Slot{Tag: a, Mapping: m})
					if len(got) == at+1 {
						do(x)
						wantTold(t, what+" within", collect(all, 99), y.Slots()...)
						wantSlots(t, what, x, y.Slots()...)
					}
				}
				wantTold(t, what, got, mixed()...)
				wantSlots(t, what, x, y.Slots()...)
			}
		}
	}
}

// TestAllBegins: what is done ahead of the range is seen, though All was asked
// for earlier.
func TestAllBegins(t *testing.T) {
	for what, do := range doings() {
		x, y := load(t, 8, mixed()...), load(t, 8, mixed()...)
		all := x.All()
		do(x)
		do(y)
		wantTold(t, what, collect(all, 99), y.Slots()...)
	}
}

// TestTellingIsNoUse: what only tells changes no order.
func TestTellingIsNoUse(t *testing.T) {
	x := load(t, 8, mixed()...)
	for range x.All() {
		x.Len()
		x.Slots()
	}
	wantSlots(t, "told", x, mixed()...)
	for i := range 8 {
		collect(x.All(), i)
		x.Slots()
		wantPutFor(t, x, slot(9, uint32(i), 1, 1), mixed()[7-i].Tag)
	}
}

// TestSlotsAreNew: a list that comes out is the caller's own.
func TestSlotsAreNew(t *testing.T) {
	x := load(t, 9, mixed()...)
	l, other := x.Slots(), x.Slots()
	spoil(l)
	wantTold(t, "another list", other, mixed()...)
	wantSlots(t, "the list was changed", x, mixed()...)
	x.Flush()
	wantTold(t, "a list ahead of a flush", other, mixed()...)
}
