package cache_test

import (
	"math"
	"math/rand"
	"slices"
	"testing"

	"cloister/api"
	"cloister/cache"
)

// filled is a cache with two sets, which has lines in both, some dirty, some
// used again.
func filled(t *testing.T) *cache.Cache {
	t.Helper()
	c := newCache(t, shape(2, 2, 16))
	for _, u := range []api.Use{write(0), read(64), read(16), write(48), read(0)} {
		c.Access(u.Addr, u.Write)
	}
	return c
}

var filledLines = []api.Line{{Set: 0, Tag: 0, Dirty: true}, {Set: 0, Tag: 2}, {Set: 1, Tag: 1, Dirty: true}, {Set: 1, Tag: 0}}

func TestLines(t *testing.T) {
	c := filled(t)
	wantLines(t, "filled", c, filledLines...)
	c.Access(64, true)
	wantLines(t, "used", c, api.Line{Set: 0, Tag: 2, Dirty: true}, api.Line{Set: 0, Tag: 0, Dirty: true}, filledLines[2], filledLines[3])
}

// TestLinesAreNew: R2, spare room too.
func TestLinesAreNew(t *testing.T) {
	c := filled(t)
	a, b := c.Lines(), c.Lines()
	spoilLines(a)
	if !slices.Equal(b, filledLines) {
		t.Errorf("one list that is told changes another: %v", b)
	}
	wantLines(t, "spoilt", c, filledLines...)
	kept := c.Lines()
	c.Access(32, true)
	c.Flush()
	if !slices.Equal(kept, filledLines) {
		t.Errorf("a list that was told is changed later: %v", kept)
	}
}

// spoilLines writes over all of a list, its spare room too.
func spoilLines(l []api.Line) {
	for i := range l[:cap(l)] {
		l[:cap(l)][i] = api.Line{Set: 1, Tag: 99, Dirty: true}
	}
}

func TestLoad(t *testing.T) {
	c := filled(t)
	want := []api.Line{{Set: 1, Tag: 7, Dirty: true}, {Set: 1, Tag: 5}}
	wantErrno(t, "Load", c.Load(want...), api.OK)
	wantLines(t, "loaded", c, want...)
	wantHolds(t, c, 0, false, false) // no others are there
	wantTouch(t, c, read(7*32+16), hit)
	wantTouch(t, c, read(0), miss)
	if c.Dirty() != 1 {
		t.Errorf("%d are dirty, want 1", c.Dirty())
	}
	wantFlush(t, c, 2+8, 1)
	wantErrno(t, "Load", c.Load(want...), api.OK)
	wantErrno(t, "Load of nothing", c.Load(), api.OK)
	wantLines(t, "nothing was loaded", c)
	wantErrno(t, "Load of a nil list", c.Load([]api.Line(nil)...), api.OK)
}

// TestLoadOrder: of those of one set the first was used last, wherever those
// of other sets stand between them.
func TestLoadOrder(t *testing.T) {
	c := newCache(t, shape(4, 3, 16))
	e := c.Load(api.Line{Set: 3, Tag: 1}, api.Line{Set: 0, Tag: 9, Dirty: true}, api.Line{Set: 3, Tag: 2, Dirty: true}, api.Line{Set: 0, Tag: 4}, api.Line{Set: 3, Tag: 0}, api.Line{Set: 0, Tag: 6})
	wantErrno(t, "Load", e, api.OK)
	wantLines(t, "loaded", c, api.Line{Set: 0, Tag: 9, Dirty: true}, api.Line{Set: 0, Tag: 4}, api.Line{Set: 0, Tag: 6}, api.Line{Set: 3, Tag: 1}, api.Line{Set: 3, Tag: 2, Dirty: true}, api.Line{Set: 3, Tag: 0})
	for i, want := range []api.Touch{miss, miss, back} { // 6, 4, 9 go
		wantTouch(t, c, read(uint32(4096+64*i)), want)
	}
	for i, want := range []api.Touch{miss, back, miss} { // 0, 2, 1 go
		wantTouch(t, c, read(uint32(4096+48+64*i)), want)
	}
}

// TestLoadRefuses: each way, first, last and between; nothing is changed.
func TestLoadRefuses(t *testing.T) {
	ok := []api.Line{{Set: 0, Tag: 5}, {Set: 1, Tag: 5, Dirty: true}}
	c := filled(t)
	for _, bad := range [][]api.Line{
		{{Set: 2}},
		{{Set: 3, Tag: 1}},
		{{Set: 1 << 31}},
		{{Set: math.MaxUint32}},
		{{Set: 256}},
		{{Tag: 1 << 27}},
		{{Set: 1, Tag: 1 << 27}},
		{{Tag: 1 << 31}},
		{{Tag: math.MaxUint32}},
		{{Set: 1, Tag: math.MaxUint32}},
		{{Set: 2, Tag: 1 << 27}},
		{{Tag: 1}, {Tag: 1}},
		{{Tag: 1}, {Tag: 1, Dirty: true}},
		{{Tag: 1, Dirty: true}, {Tag: 1}},
		{{Set: 1}, {Set: 1}},
		{{Tag: 1}, {Set: 1}, {Tag: 1}},
		{{Tag: 1}, {Tag: 2}, {Tag: 3}},
		{{Set: 1, Tag: 1}, {Set: 1, Tag: 2}, {Set: 1, Tag: 3}},
		{{Tag: 1}, {Set: 1, Tag: 2}, {Tag: 3}, {Set: 1, Tag: 4}, {Tag: 6}},
	} {
		for _, l := range [][]api.Line{bad, append(slices.Clone(ok), bad...), append(slices.Clone(bad), ok...)} {
			wantErrno(t, "Load", c.Load(l...), api.ErrCacheLine)
			wantLines(t, "Load refused", c, filledLines...)
		}
	}
	if c.Dirty() != 2 {
		t.Errorf("%d are dirty, want 2", c.Dirty())
	}
	wantTouch(t, c, read(0), hit)
	wantTouch(t, c, read(32), miss) // 64 goes
	wantTouch(t, c, read(64), back) // 0 goes
}

// TestLoadEdges: of each shape the last line that there is, and the first
// that there is not; as many of a set as Ways, and one more.
func TestLoadEdges(t *testing.T) {
	for _, s := range shapes() {
		c := newCache(t, s)
		tags := uint32(1 << 32 / int64(s.Line*s.Sets))
		last := api.Line{Set: uint32(s.Sets - 1), Tag: tags - 1, Dirty: true}
		wantErrno(t, "Load of the last line", c.Load(last), api.OK)
		wantHolds(t, c, lastAddr, true, true)
		wantHolds(t, c, 0, false, false)
		for _, bad := range []api.Line{{Set: 0, Tag: tags}, {Set: last.Set, Tag: tags}, {Set: uint32(s.Sets)}} {
			wantErrno(t, "Load of no line", c.Load(bad), api.ErrCacheLine)
		}
		wantLines(t, "the last line", c, last)
		var full []api.Line
		for set := range uint32(s.Sets) {
			for tag := range uint32(s.Ways) {
				full = append(full, api.Line{Set: set, Tag: tags - 1 - tag, Dirty: tag%2 == 0})
			}
		}
		wantErrno(t, "Load of all that there may be", c.Load(full...), api.OK)
		wantLines(t, "all that there may be", c, full...)
		for set := range uint32(s.Sets) {
			e := c.Load(append(slices.Clone(full), api.Line{Set: set, Tag: 0})...)
			wantErrno(t, "Load of one more", e, api.ErrCacheLine)
		}
		wantLines(t, "one more was refused", c, full...)
	}
}

// TestLoadKeepsNothing: R2, what is handed in is neither changed nor kept.
func TestLoadKeepsNothing(t *testing.T) {
	given := append(make([]api.Line, 0, 9), filledLines...)
	spare := given[:9]
	for i := 4; i < 9; i++ {
		spare[i] = api.Line{Set: 1, Tag: uint32(i)}
	}
	was := slices.Clone(spare)
	c := newCache(t, shape(2, 2, 16))
	wantErrno(t, "Load", c.Load(given...), api.OK)
	c.Access(128, true)
	c.Access(1<<20, true)
	c.Flush()
	wantErrno(t, "Load", c.Load(given...), api.OK)
	wantErrno(t, "Load", c.Load(spare...), api.ErrCacheLine)
	if !slices.Equal(spare, was) {
		t.Errorf("Load changed its list: %v, was %v", spare, was)
	}
	spoilLines(given)
	wantLines(t, "the list was changed later", c, filledLines...)
}

// TestLoadedTellsTheSame: lines that are told make another cache one that
// tells the same of whatever comes.
func TestLoadedTellsTheSame(t *testing.T) {
	r := rand.New(rand.NewSource(4))
	for _, s := range shapes() {
		a, b := newCache(t, s), newCache(t, s)
		for _, u := range randomUses(r, s, 60) {
			a.Access(u.Addr, u.Write)
		}
		for _, u := range randomUses(r, s, 30) {
			b.Access(u.Addr, u.Write)
		}
		wantErrno(t, "Load", b.Load(a.Lines()...), api.OK)
		for _, u := range randomUses(r, s, 100) {
			wantTouch(t, b, u, a.Access(u.Addr, u.Write))
			wantLines(t, "loaded", b, a.Lines()...)
		}
		cycles, lines := a.Flush()
		wantFlush(t, b, cycles, lines)
	}
}
