package cache_test

import (
	"math"
	"math/rand"
	"slices"
	"testing"

	"cloister/api"
	"cloister/cache"
)

// What an access may come to.
var (
	hit  = api.Touch{Hit: true, Cycles: 1}
	miss = api.Touch{Cycles: 12}
	back = api.Touch{Back: true, Cycles: 20}
)

const lastAddr = math.MaxUint32

func shape(sets, ways, line int) api.Shape {
	return api.Shape{Sets: sets, Ways: ways, Line: line}
}

func newCache(t *testing.T, s api.Shape) *cache.Cache {
	t.Helper()
	c, e := cache.New(s)
	if c == nil || e != api.OK {
		t.Fatalf("New(%v) = %v, %d", s, c, e)
	}
	return c
}

func read(addr uint32) api.Use  { return api.Use{Addr: addr} }
func write(addr uint32) api.Use { return api.Use{Addr: addr, Write: true} }

// wantTouch does an access, which must come to that.
func wantTouch(t *testing.T, c *cache.Cache, u api.Use, want api.Touch) {
	t.Helper()
	if got := c.Access(u.Addr, u.Write); got != want {
		t.Errorf("Access(%d, %v) = %v, want %v", u.Addr, u.Write, got, want)
	}
}

func wantHolds(t *testing.T, c *cache.Cache, addr uint32, there, dirty bool) {
	t.Helper()
	if a, b := c.Holds(addr); a != there || b != dirty {
		t.Errorf("Holds(%d) = %v, %v, want %v, %v", addr, a, b, there, dirty)
	}
}

func wantLines(t *testing.T, what string, c *cache.Cache, want ...api.Line) {
	t.Helper()
	if got := c.Lines(); !slices.Equal(got, want) {
		t.Errorf("%s: the lines are %v, want %v", what, got, want)
	}
}

func wantFlush(t *testing.T, c *cache.Cache, cycles, lines int) {
	t.Helper()
	if a, b := c.Flush(); a != cycles || b != lines {
		t.Errorf("Flush = %d, %d, want %d, %d", a, b, cycles, lines)
	}
}

func wantErrno(t *testing.T, what string, got, want api.Errno) {
	t.Helper()
	if got != want {
		t.Errorf("%s: error %d, want %d", what, got, want)
	}
}

// shapes are all that may be.
func shapes() []api.Shape {
	var all []api.Shape
	for _, sets := range []int{1, 2, 4, 8, 16, 32, 64, 128, 256} {
		for _, ways := range []int{1, 2, 3, 4, 5, 6, 7, 8} {
			for _, line := range []int{16, 32, 64, 128, 256} {
				all = append(all, shape(sets, ways, line))
			}
		}
	}
	return all
}

// randomUses are of few lines, so that they meet: as many of each set as the
// cache has ways, and some more; at both ends of the addresses.
func randomUses(r *rand.Rand, s api.Shape, n int) []api.Use {
	l := make([]api.Use, n)
	for i := range l {
		sets := min(s.Sets, 3)
		number := r.Intn(s.Ways+3)*s.Sets + r.Intn(sets)
		addr := uint32(number*s.Line + r.Intn(s.Line))
		if r.Intn(2) == 0 {
			addr = lastAddr - addr
		}
		l[i] = api.Use{Addr: addr, Write: r.Intn(3) == 0}
	}
	return l
}

// isPowerOfTwo by another way than the program's.
func isPowerOfTwo(n int) bool {
	for p := 1; p <= 1<<20; p *= 2 {
		if n == p {
			return true
		}
	}
	return false
}

func TestShapesThatMayBe(t *testing.T) {
	all := shapes()
	for _, s := range all {
		c := newCache(t, s)
		if c.Shape() != s {
			t.Errorf("Shape of New(%v) = %v", s, c.Shape())
		}
		wantLines(t, "a new cache", c)
		if c.Dirty() != 0 {
			t.Errorf("%d lines of a new cache are dirty", c.Dirty())
		}
	}
	found := 0
	for sets := -3; sets <= 600; sets++ {
		for ways := -2; ways <= 18; ways++ {
			for _, line := range []int{-16, 0, 1, 2, 8, 15, 16, 17, 24, 31, 32, 33, 48, 64, 96, 128, 192, 255, 256, 257, 512, 1024, 4096} {
				s := shape(sets, ways, line)
				want := isPowerOfTwo(sets) && sets <= 256 && ways >= 1 && ways <= 8 && isPowerOfTwo(line) && line >= 16 && line <= 256
				if want {
					found++
				}
				wantShape(t, s, want)
			}
		}
	}
	if found != len(all) {
		t.Errorf("%d shapes may be, want %d", found, len(all))
	}
}

// wantShape asks everything that is handed a shape.
func wantShape(t *testing.T, s api.Shape, may bool) {
	t.Helper()
	c, e := cache.New(s)
	l, f := cache.Predict(s, read(0))
	access, flush := cache.Worst(s)
	if may {
		if c == nil || e != api.OK || len(l) != 1 || f != api.OK || access == 0 || flush == 0 {
			t.Errorf("%v may be: New %d, Predict %v, %d, Worst %d, %d", s, e, l, f, access, flush)
		}
		return
	}
	if c != nil || e != api.ErrCacheShape {
		t.Errorf("New(%v) = %v, %d, want nil, %d", s, c, e, api.ErrCacheShape)
	}
	if len(l) != 0 || f != api.ErrCacheShape {
		t.Errorf("Predict(%v) = %v, %d, want nothing, %d", s, l, f, api.ErrCacheShape)
	}
	if access != 0 || flush != 0 {
		t.Errorf("Worst(%v) = %d, %d, want 0, 0", s, access, flush)
	}
}

func TestShapesThatMayNotBe(t *testing.T) {
	far := []int{math.MinInt, math.MinInt + 1, -1 << 32, -256, -1, 0, 1 << 20, 1 << 32, 1<<32 + 1, 1<<32 + 16, 1 << 62, math.MaxInt}
	for _, n := range far {
		wantShape(t, shape(n, 1, 16), false)
		wantShape(t, shape(1, n, 16), false)
		wantShape(t, shape(1, 1, n), false)
		wantShape(t, shape(n, n, n), false)
	}
	wantShape(t, api.Shape{}, false)
}

func TestPredictOfNothing(t *testing.T) {
	if l, e := cache.Predict(shape(1, 1, 16)); len(l) != 0 || e != api.OK {
		t.Errorf("Predict of no uses = %v, %d", l, e)
	}
	if l, e := cache.Predict(shape(1, 1, 17)); len(l) != 0 || e != api.ErrCacheShape {
		t.Errorf("Predict of no uses, and a shape that may not be = %v, %d", l, e)
	}
}

func TestExamples(t *testing.T) {
	c := newCache(t, shape(1, 2, 16))
	for i, addr := range []uint32{0, 16, 0, 32, 16} {
		wantTouch(t, c, read(addr), []api.Touch{miss, miss, hit, miss, miss}[i])
		gone := map[int]uint32{3: 16, 4: 0}
		if a, ok := gone[i]; ok {
			wantHolds(t, c, a, false, false)
		}
	}

	c = newCache(t, shape(1, 2, 16))
	wantTouch(t, c, write(0), miss)
	wantTouch(t, c, read(16), miss)
	wantTouch(t, c, read(32), back)
	wantFlush(t, c, 1, 0)

	c = newCache(t, shape(2, 1, 16))
	for i, addr := range []uint32{0, 16, 0, 16} {
		wantTouch(t, c, read(addr), []api.Touch{miss, miss, hit, hit}[i])
	}
	wantTouch(t, c, read(32), miss)
	wantHolds(t, c, 0, false, false)
	wantHolds(t, c, 16, true, false)
}

// TestExamplesPredicted: the same, without a cache.
func TestExamplesPredicted(t *testing.T) {
	for i, x := range []struct {
		s    api.Shape
		uses []api.Use
		want []api.Touch
	}{
		{shape(1, 2, 16), []api.Use{read(0), read(16), read(0), read(32), read(16)}, []api.Touch{miss, miss, hit, miss, miss}},
		{shape(1, 2, 16), []api.Use{write(0), read(16), read(32)}, []api.Touch{miss, miss, back}},
		{shape(2, 1, 16), []api.Use{read(0), read(16), read(0), read(16), read(32)}, []api.Touch{miss, miss, hit, hit, miss}},
	} {
		if got, e := cache.Predict(x.s, x.uses...); e != api.OK || !slices.Equal(got, x.want) {
			t.Errorf("example %d: %v, %d, want %v", i+1, got, e, x.want)
		}
	}
}

// TestCachesApart: R3, objects know nothing of one another.
func TestCachesApart(t *testing.T) {
	s := shape(2, 2, 16)
	a, b := newCache(t, s), newCache(t, s)
	wantTouch(t, a, write(0), miss)
	wantLines(t, "another cache", b)
	wantTouch(t, b, read(0), miss)
	wantHolds(t, b, 0, true, false)
	wantHolds(t, a, 0, true, true)
	b.Access(64, true)
	b.Access(128, true)
	wantHolds(t, a, 0, true, true)
	b.Flush()
	wantLines(t, "a cache, another of which is flushed", a, api.Line{Dirty: true})
	wantErrno(t, "Load", b.Load(a.Lines()...), api.OK)
	a.Access(64, false)
	a.Access(128, false)
	wantLines(t, "a cache that was loaded with another's lines", b, api.Line{Dirty: true})
	cache.Predict(s, write(16))
	wantHolds(t, a, 16, false, false)
	wantHolds(t, b, 16, false, false)
}

func TestErrorNumbers(t *testing.T) {
	wantErrno(t, "ErrCacheShape", api.ErrCacheShape, 30)
	wantErrno(t, "ErrCacheLine", api.ErrCacheLine, 31)
}
