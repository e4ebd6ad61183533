package boot

import (
	"errors"
	"slices"
	"testing"

	"cloister/api"
	"cloister/arena"
	"cloister/cache"
	"cloister/gic"
	"cloister/memory"
	"cloister/mmu"
	"cloister/tlb"
)

// givenUp is what something is given up with; nil: it is not.
func givenUp(do func()) (given any) {
	defer func() { given = recover() }()
	do()
	return nil
}

func TestEach(t *testing.T) {
	double := func(n int) (int64, api.Errno) { return int64(2 * n), api.OK }
	if l := each([]int{3, 1, 2}, double); !slices.Equal(l, []int64{6, 2, 4}) {
		t.Errorf("%v", l)
	}
	if l := each(nil, double); len(l) != 0 {
		t.Errorf("of nothing: %v", l)
	}
}

// TestFirstThatIsRefused: it is told as it came, and nothing is made of those
// behind it.
func TestFirstThatIsRefused(t *testing.T) {
	asked := 0
	given := givenUp(func() {
		each([]int{0, 0, 173, 0, 72}, func(n int) (int, api.Errno) {
			asked++
			return n, api.Errno(n)
		})
	})
	if given == nil || asked != 3 {
		t.Fatalf("given up with %v, behind %d", given, asked)
	}
	if e := toldBy(given); e != api.ErrQueuingFull {
		t.Errorf("error %d", e)
	}
}

// TestFaultsArePassedOn: only refused parts are told as errors.
func TestFaultsArePassedOn(t *testing.T) {
	fault := errors.New("a fault of the program")
	if given := givenUp(func() { toldBy(fault) }); given != fault {
		t.Errorf("given up with %v", given)
	}
}

// TestRefusedCells: what cannot be built is given up on with the error of the
// layer that refused it.
func TestRefusedCells(t *testing.T) {
	g := api.Config{
		Pages: 4, OwnPages: 2, Shape: api.Shape{Sets: 1, Ways: 1, Line: 16}, Slots: 1, Major: 1000,
		Cells:   []api.Cell{{Ranges: []api.Range{{Physical: 2 * api.PageSize, Pages: 1, Perm: api.Exec}}}},
		Windows: []api.Window{{Cell: 1, Length: 1000}},
	}
	if given := givenUp(func() { build(g) }); given != nil {
		t.Fatalf("given up with %v", given)
	}
	for want, change := range map[api.Errno]func(g *api.Config){
		api.ErrMemoryArg:   func(g *api.Config) { g.Pages = 0 },
		api.ErrCacheShape:  func(g *api.Config) { g.Shape.Sets = 3 },
		api.ErrTLBArg:      func(g *api.Config) { g.Slots = 65 },
		api.ErrArenaArg:    func(g *api.Config) { g.OwnPages = 5 },
		api.ErrTablesFull:  func(g *api.Config) { g.OwnPages = 1 },
		api.ErrTablesArg:   func(g *api.Config) { g.Cells = []api.Cell{{Ranges: []api.Range{{Pages: 0, Perm: api.Exec}}}} },
		api.ErrGicLine:     func(g *api.Config) { g.Cells = []api.Cell{{Lines: []int{3, 32}}} },
		api.ErrHoursArg:    func(g *api.Config) { g.Major = 999 },
		api.ErrSamplingArg: func(g *api.Config) { g.Samples = []api.Sample{{Writer: 1, Size: 4}} },
		api.ErrQueuingArg:  func(g *api.Config) { g.Queues = []api.Queue{{Writer: 1, Reader: 1, Size: 4}} },
	} {
		h := g
		change(&h)
		if given := givenUp(func() { build(h) }); given != (refused{want}) {
			t.Errorf("given up with %v, want %d", given, want)
		}
	}
}

// TestSealed: the arena gives no more pages, though some are left.
func TestSealed(t *testing.T) {
	m := sure(memory.New(8))
	u := sure(mmu.New(m, sure(cache.New(api.Shape{Sets: 1, Ways: 1, Line: 16})), sure(tlb.New(1))))
	b := builder{own: sure(arena.New(m, api.PageSize, 6)), mmu: u, gic: gic.New()}
	r := api.Range{Physical: 7 * api.PageSize, Pages: 1, Perm: api.Exec}
	roots := b.cells([]api.Cell{{Ranges: []api.Range{r}}, {Ranges: []api.Range{r}}})
	if !slices.Equal(roots, []uint32{api.PageSize, 3 * api.PageSize}) {
		t.Errorf("roots %v", roots)
	}
	if !b.own.Sealed() || b.own.Taken() != 4 || b.own.Left() != 2 {
		t.Errorf("sealed: %v, %d pages taken, %d left", b.own.Sealed(), b.own.Taken(), b.own.Left())
	}
}
