package arena_test

import (
	"math/rand"
	"testing"

	"cloister/api"
	"cloister/arena"
	"cloister/memory"
)

// TestApart: two arenas of one memory whose regions do not overlap.
func TestApart(t *testing.T) {
	m := written(t, 4)
	a, b := newArena(t, m, 0, 2), newArena(t, m, 8192, 2)
	wantTake(t, b, 8192)
	wantState(t, "the other one took", a, 2, 0, false)
	wantTake(t, a, 0)
	wantState(t, "the other one took", b, 1, 1, false)
	a.Seal()
	wantState(t, "the other one is sealed", b, 1, 1, false)
	wantRefused(t, a, api.ErrArenaSealed)
	wantTake(t, b, 12288)
	wantRefused(t, b, api.ErrArenaFull)
	wantState(t, "the other one is full", a, 1, 1, true)
	wantHolds(t, "beside another", a, 0, 8192)
	wantHolds(t, "beside another", b, 8192, 16384)
	if a.Memory() != m || b.Memory() != m {
		t.Error("both are of one memory")
	}
}

// TestOverlap: two whose regions overlap give the same pages, each in its own
// order, and each puts them to 0, whatever was built there meanwhile.
func TestOverlap(t *testing.T) {
	m := written(t, 4)
	a, b := newArena(t, m, 0, 3), newArena(t, m, 4096, 3)
	wantTake(t, a, 0)
	wantTake(t, a, 4096)
	m.Fill(4096, pageSize, 0xee)
	wantState(t, "the other one took", b, 3, 0, false)
	wantTake(t, b, 4096)
	m.Fill(4096, pageSize, 0xdd)
	wantTake(t, b, 8192)
	m.Fill(8192, pageSize, 0xcc)
	wantState(t, "the other one took", a, 1, 2, false)
	b.Seal()
	wantRefused(t, b, api.ErrArenaSealed)
	wantTake(t, a, 8192)
	wantRefused(t, a, api.ErrArenaFull)
	wantState(t, "the other one took", b, 1, 2, true)
}

// TestSameRegion: not even two of the very same region know of each other.
func TestSameRegion(t *testing.T) {
	m := written(t, 3)
	a := newArena(t, m, 4096, 2)
	wantTake(t, a, 4096)
	wantTake(t, a, 8192)
	a.Seal()
	m.Fill(4096, 2*pageSize, 3)
	b := newArena(t, m, 4096, 2)
	wantState(t, "a second one", b, 2, 0, false)
	wantTake(t, b, 4096)
	wantTake(t, b, 8192)
	wantState(t, "the first one", a, 0, 2, true)
}

// TestOtherMemory: arenas of two memories, of the same region.
func TestOtherMemory(t *testing.T) {
	m := written(t, 2)
	n := m.Clone()
	before := content(t, n)
	a, b := newArena(t, m, 0, 2), newArena(t, n, 0, 2)
	wantTake(t, a, 0)
	wantTake(t, a, 4096)
	wantContent(t, "another memory", n, before)
	wantState(t, "of another memory", b, 2, 0, false)
	wantTake(t, b, 0)
}

// model is what an arena is, in plain words.
type model struct {
	a      *arena.Arena
	left   []int // the pages that are not taken
	taken  int
	sealed bool
}

// TestAnyOrder: several arenas of one memory, and others that write there, in
// any order: each is as its model says, and the memory a plain list of bytes.
func TestAnyOrder(t *testing.T) {
	for seed := range int64(60) {
		random := rand.New(rand.NewSource(seed))
		size := 1 + random.Intn(6)
		m, all := newMemory(t, size), make([]byte, size*pageSize)
		var models []*model
		for range 60 {
			switch {
			case len(models) == 0 || random.Intn(12) == 0:
				models = append(models, someModel(t, random, m))
			case random.Intn(3) == 0:
				at, n, b := random.Intn(len(all)), random.Intn(2*pageSize), byte(random.Intn(256))
				n = min(n, len(all)-at)
				m.Fill(uint32(at), n, b)
				for i := range n {
					all[at+i] = b
				}
			default:
				change(t, random, models[random.Intn(len(models))], all)
			}
			for _, x := range models {
				wantState(t, "in any order", x.a, len(x.left), x.taken, x.sealed)
			}
			wantContent(t, "in any order", m, all)
		}
	}
}

func someModel(t *testing.T, random *rand.Rand, m *memory.Memory) *model {
	t.Helper()
	base := random.Intn(m.Pages() + 1)
	pages := random.Intn(m.Pages() - base + 1)
	x := &model{a: newArena(t, m, uint32(base*pageSize), pages)}
	for i := range pages {
		x.left = append(x.left, base+i)
	}
	return x
}

func change(t *testing.T, random *rand.Rand, x *model, all []byte) {
	t.Helper()
	if random.Intn(12) == 0 {
		x.a.Seal()
		x.sealed = true
		return
	}
	want, e := 0, api.OK
	switch {
	case x.sealed:
		e = api.ErrArenaSealed
	case len(x.left) == 0:
		e = api.ErrArenaFull
	default:
		want = x.left[0] * pageSize
		x.left = x.left[1:]
		x.taken++
		clear(all[want : want+pageSize])
	}
	if at, got := x.a.Take(); at != uint32(want) || got != e {
		t.Fatalf("Take() = %d, %d, want %d, %d", at, got, want, e)
	}
}
