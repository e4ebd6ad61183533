package tlb_test

import (
	"math"
	"slices"
	"testing"

	"cloister/api"
)

// mixed are slots of the cells 1, 2 and 3, among one another.
func mixed() []api.Slot {
	return []api.Slot{
		slot(2, 0, 1, 1), slot(1, 0, 2, 1), slot(3, 0, 3, 1), slot(1, 1, 4, 1),
		slot(2, 5, 5, 1), slot(1, 5, 6, 1), slot(3, 5, 7, 1), slot(2, 6, 8, 1),
	}
}

// without are the mixed ones but for those of some cells.
func without(cells ...int) []api.Slot {
	return slices.DeleteFunc(mixed(), func(s api.Slot) bool { return slices.Contains(cells, s.Tag.Cell) })
}

func TestDrop(t *testing.T) {
	for i, s := range mixed() {
		x := load(t, 8, mixed()...)
		rest := slices.Delete(mixed(), i, i+1)
		wantDrop(t, x, s.Tag, true)
		wantSlots(t, "dropped", x, rest...)
		wantLook(t, x, s.Tag, api.Mapping{}, false)
		wantDrop(t, x, s.Tag, false)
		wantSlots(t, "dropped twice", x, rest...)
		wantPut(t, x, s) // its slot is free
		wantSlots(t, "put again", x, append([]api.Slot{s}, rest...)...)
		wantPutFor(t, x, slot(9, 9, 9, 9), rest[6].Tag)
	}
}

// TestDropNone: tags that have but a part in common with one that is there.
func TestDropNone(t *testing.T) {
	x := load(t, 9, mixed()...)
	for _, a := range []api.Tag{{}, tag(1, 6), tag(3, 1), tag(0, 0), tag(-1, 0), tag(4, 5), tag(1<<32+1, 0), tag(1, 1<<31)} {
		wantDrop(t, x, a, false)
		wantSlots(t, "dropped none", x, mixed()...)
	}
	wantDrop(t, newTLB(t, 1), api.Tag{}, false)
}

func TestFlush(t *testing.T) {
	for slots := 1; slots <= mostSlots; slots++ {
		for n := range slots + 1 {
			l := row(1, n)
			x := load(t, slots, l...)
			wantFlush(t, x, n)
			wantSlots(t, "flushed", x)
			wantFlush(t, x, 0)
			for _, s := range l {
				wantLook(t, x, s.Tag, api.Mapping{}, false)
			}
			for _, s := range row(2, slots) { // all are free
				wantPut(t, x, s)
			}
			wantPutFor(t, x, slot(1, 0, 1, 1), tag(2, 0))
		}
	}
}

func TestFlushCell(t *testing.T) {
	for _, c := range []struct {
		cells []int
		want  int
	}{
		{nil, 0}, {[]int{}, 0},
		{[]int{1}, 3}, {[]int{2}, 3}, {[]int{3}, 2},
		{[]int{1, 1}, 3}, {[]int{3, 3, 3}, 2},
		{[]int{1, 2}, 6}, {[]int{2, 1}, 6}, {[]int{3, 1, 3}, 5}, {[]int{2, 3, 2, 3}, 5},
		{[]int{1, 2, 3}, 8}, {[]int{3, 2, 1, 0, 3}, 8},
		{[]int{0}, 0}, {[]int{4}, 0}, {[]int{-1}, 0}, {[]int{1<<32 + 1}, 0}, {[]int{math.MaxInt, math.MinInt}, 0},
		{[]int{4, 2, 9}, 3}, {[]int{5, 6, 0, -2, 3}, 2},
	} {
		for slots := 8; slots <= 9; slots++ {
			x := load(t, slots, mixed()...)
			rest := without(c.cells...)
			wantFlushCell(t, x, c.want, c.cells...)
			wantSlots(t, "cells flushed", x, rest...)
			wantFlushCell(t, x, 0, c.cells...)
			wantSlots(t, "cells flushed twice", x, rest...)
			for _, s := range mixed() {
				if slices.Contains(c.cells, s.Tag.Cell) {
					wantLook(t, x, s.Tag, api.Mapping{}, false)
				}
			}
			for i := range slots - len(rest) { // so many are free
				wantPut(t, x, slot(7, uint32(i), 1, 1))
			}
			for i := range rest { // the others go in their order
				wantPutFor(t, x, slot(8, uint32(i), 1, 1), rest[len(rest)-1-i].Tag)
			}
		}
	}
}

// TestFlushOddCells: any numbers are cells.
func TestFlushOddCells(t *testing.T) {
	x := load(t, 8, odd()...)
	wantFlushCell(t, x, 2, -1)
	wantFlushCell(t, x, 1, math.MinInt)
	wantFlushCell(t, x, 1, math.MaxInt)
	wantFlushCell(t, x, 2, 0)
	wantSlots(t, "odd cells flushed", x, slot(1<<32, 0, 4096, 2), slot(1, 0, 0, 0))
	wantFlushCell(t, newTLB(t, 3), 0, 0, 1, 2)
}

// TestFlushCellLeavesAlone: the cells that are handed in stay as they are,
// spare room too.
func TestFlushCellLeavesAlone(t *testing.T) {
	room := []int{3, 1, 3, 7, 8, 9}
	x := load(t, 8, mixed()...)
	wantFlushCell(t, x, 5, room[:3]...)
	if !slices.Equal(room, []int{3, 1, 3, 7, 8, 9}) {
		t.Errorf("the cells that were handed in are %v", room)
	}
	spoil(room)
	wantSlots(t, "the cells were changed", x, without(1, 3)...)
}

// TestManyCells: of a long list the last one counts too.
func TestManyCells(t *testing.T) {
	cells := make([]int, 100000)
	for i := range cells {
		cells[i] = 10 + i
	}
	x := load(t, 8, mixed()...)
	wantFlushCell(t, x, 0, cells...)
	wantFlushCell(t, x, 3, append(cells, 2)...)
	wantSlots(t, "many cells", x, without(2)...)
}
