package arena_test

import (
	"math"
	"testing"

	"cloister/arena"
)

// wantHolds asks at the bounds of a region from base on, up to end, and next
// to them.
func wantHolds(t *testing.T, what string, a *arena.Arena, base, end uint32) {
	t.Helper()
	for _, at := range []uint32{
		0, 1, 4095, 4096, 4097, 8191, 8192, 12287, 12288, 16383, 16384, 16385, 20480,
		base, base + 1, base - 1, end, end + 1, end - 1, end - 2, base/2 + end/2,
		1<<24 - 1, 1 << 24, 1<<31 - 1, 1 << 31, 1<<31 + base, 1<<31 + end - 1,
		-base, -end, math.MaxUint32 - 4096, math.MaxUint32 - 4095, math.MaxUint32 - 1, math.MaxUint32,
	} {
		if got, want := a.Holds(at), base <= at && at < end; got != want {
			t.Errorf("%s, %d to %d: Holds(%d) = %v", what, base, end, at, got)
		}
	}
}

// TestHolds: of each region of a memory; taken or not, sealed or not.
func TestHolds(t *testing.T) {
	const size = 4
	for base := range uint32(size + 1) {
		for pages := range size - base + 1 {
			from, end := base*pageSize, (base+pages)*pageSize
			a := newArena(t, newMemory(t, size), from, int(pages))
			wantHolds(t, "none taken", a, from, end)
			for range pages {
				a.Take()
				wantHolds(t, "some taken", a, from, end)
			}
			a.Take()
			wantHolds(t, "one too many", a, from, end)
			a.Seal()
			wantHolds(t, "sealed", a, from, end)
			wantState(t, "asked", a, 0, int(pages), true)
		}
	}
}

// TestHoldsEachByte of a region, and none of the pages beside it.
func TestHoldsEachByte(t *testing.T) {
	a := newArena(t, newMemory(t, 5), 4096, 3)
	for at := range uint32(5*pageSize + 100) {
		if got, want := a.Holds(at), at >= 4096 && at < 16384; got != want {
			t.Fatalf("Holds(%d) = %v", at, got)
		}
	}
}

func TestHoldsOfTheGreatest(t *testing.T) {
	const end = mostPages * pageSize
	m := newMemory(t, mostPages)
	wantHolds(t, "all of it", newArena(t, m, 0, mostPages), 0, end)
	wantHolds(t, "all but a page", newArena(t, m, 4096, mostPages-1), 4096, end)
	wantHolds(t, "its last page", newArena(t, m, end-4096, 1), end-4096, end)
	wantHolds(t, "none at its end", newArena(t, m, end, 0), end, end)
}

// TestAskingChangesNothing: Holds, Left, Taken, Sealed and Memory.
func TestAskingChangesNothing(t *testing.T) {
	m := written(t, 3)
	before := content(t, m)
	a := newArena(t, m, 4096, 2)
	for range 5 {
		wantHolds(t, "asked again", a, 4096, 12288)
		wantState(t, "asked again", a, 2, 0, false)
		if a.Memory() != m {
			t.Error("Memory is another one")
		}
	}
	wantContent(t, "asked again", m, before)
	wantTake(t, a, 4096)
}
