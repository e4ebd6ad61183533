package cache_test

import (
	"math/rand"
	"slices"
	"testing"

	"cloister/api"
	"cloister/cache"
)

func predict(t *testing.T, s api.Shape, l ...api.Use) []api.Touch {
	t.Helper()
	told, e := cache.Predict(s, l...)
	if e != api.OK || len(told) != len(l) {
		t.Fatalf("Predict(%v, %d uses) = %d, error %d", s, len(l), len(told), e)
	}
	return told
}

// TestReuseDistance: Access tells what Predict tells of the same accesses,
// since the cache was empty, or flushed.
func TestReuseDistance(t *testing.T) {
	r := rand.New(rand.NewSource(5))
	for _, s := range shapes() {
		c := newCache(t, s)
		for range 4 {
			l := randomUses(r, s, 200)
			for i, want := range predict(t, s, l...) {
				if got := c.Access(l[i].Addr, l[i].Write); got != want {
					t.Fatalf("%v: use %d of %v: %v, predicted %v", s, i, l, got, want)
				}
			}
			c.Flush()
		}
	}
}

// TestPredictFew: all uses of few lines that there are, up to a length, held
// against the model.
func TestPredictFew(t *testing.T) {
	const length, kinds = 6, 8 // four lines, read or written
	all := 1
	for range length {
		all *= kinds
	}
	for ways := 1; ways <= 3; ways++ {
		s := shape(1, ways, 16)
		for n := range all {
			var l [length]api.Use
			for i := range l {
				l[i] = api.Use{Addr: uint32(n % 4 * 16), Write: n/4%2 == 1}
				n /= kinds
			}
			m := &model{shape: s, lines: map[uint64]modelLine{}}
			for i, got := range predict(t, s, l[:]...) {
				if want := m.access(l[i]); got != want {
					t.Fatalf("%d ways: use %d of %v: %v, want %v", ways, i, l, got, want)
				}
			}
		}
	}
}

// TestPredictByDistance: a line is used again behind so many others of its
// set, each once, each often, and those of other sets.
func TestPredictByDistance(t *testing.T) {
	for _, s := range shapes() {
		apart := uint32(s.Line * s.Sets)
		for others := range s.Ways + 2 {
			want := hit
			if others >= s.Ways {
				want = miss
			}
			for times := 1; times <= 3; times++ {
				l := []api.Use{read(lastAddr)}
				for range times {
					for i := range others {
						l = append(l, read(lastAddr-apart*uint32(i+1)))
						if s.Sets > 1 {
							l = append(l, write(lastAddr-apart*uint32(i)-uint32(s.Line)))
						}
					}
				}
				l = append(l, read(lastAddr-uint32(s.Line)+1))
				if got := predict(t, s, l...); got[len(l)-1] != want {
					t.Errorf("%v: behind %d others, %d times: %v, want %v", s, others, times, got[len(l)-1], want)
				}
			}
		}
	}
}

// TestPredictBack: the line that goes was written since it came, or not.
func TestPredictBack(t *testing.T) {
	for i, x := range []struct {
		ways int
		uses []api.Use
		want []api.Touch
	}{
		{1, []api.Use{write(0), read(16), read(0), read(16)}, []api.Touch{miss, back, miss, miss}}, // it comes back clean
		{1, []api.Use{read(0), write(1), read(2), read(16)}, []api.Touch{miss, hit, hit, back}},    // a read cleans nothing
		{2, []api.Use{write(0), read(16), read(32), read(0), read(48), read(64)}, []api.Touch{miss, miss, back, miss, miss, miss}},
		{2, []api.Use{write(0), write(16), read(0), read(32), read(48)}, []api.Touch{miss, miss, hit, back, back}}, // 16, then 0
		{2, []api.Use{read(0), read(16), write(16), read(0), read(32), read(48)}, []api.Touch{miss, miss, hit, hit, back, miss}},
		{3, []api.Use{write(0), write(16), read(32), read(48), read(64), read(80)}, []api.Touch{miss, miss, miss, back, back, miss}},
	} {
		if got := predict(t, shape(1, x.ways, 16), x.uses...); !slices.Equal(got, x.want) {
			t.Errorf("case %d: %v, want %v", i, got, x.want)
		}
	}
}

// TestOwnSetAlone: what an access tells hangs on those to its own set alone.
func TestOwnSetAlone(t *testing.T) {
	r := rand.New(rand.NewSource(6))
	for _, s := range shapes() {
		l := randomUses(r, s, 200)
		told := predict(t, s, l...)
		set := func(u api.Use) int { return int(u.Addr) / s.Line % s.Sets }
		for _, one := range []int{0, 1, s.Sets - 1} {
			c := newCache(t, s)
			for i, u := range l {
				if set(u) == one {
					wantTouch(t, c, u, told[i])
				}
			}
		}
	}
}

// TestMoreWays: a cache with more ways hits wherever the other one does.
func TestMoreWays(t *testing.T) {
	r := rand.New(rand.NewSource(7))
	for _, s := range shapes() {
		if s.Ways == 8 {
			continue
		}
		more := shape(s.Sets, s.Ways+1, s.Line)
		c, d := newCache(t, s), newCache(t, more)
		for _, u := range randomUses(r, s, 200) {
			a, b := c.Access(u.Addr, u.Write), d.Access(u.Addr, u.Write)
			if a.Hit && !b.Hit {
				t.Fatalf("%v hits at %v, %v does not", s, u, more)
			}
		}
	}
}

// TestPredictIsNew: R2, of what is handed in and of what comes out.
func TestPredictIsNew(t *testing.T) {
	s := shape(1, 2, 16)
	given := append(make([]api.Use, 0, 8), write(0), read(16), read(32), read(32))
	was := slices.Clone(given[:8])
	want := []api.Touch{miss, miss, back, hit}
	a, b := predict(t, s, given...), predict(t, s, given...)
	for i := range a[:cap(a)] {
		a[:cap(a)][i] = api.Touch{Cycles: -1}
	}
	if !slices.Equal(b, want) {
		t.Errorf("one list that is told changes another: %v", b)
	}
	if !slices.Equal(given[:8], was) {
		t.Errorf("Predict changed its list: %v, was %v", given[:8], was)
	}
	clear(given[:8])
	if !slices.Equal(b, want) {
		t.Errorf("a list that was told is changed with the one that was handed in: %v", b)
	}
}

// TestPredictLong: long lists, in which a line is used again from afar: it
// takes no longer than the list is long.
func TestPredictLong(t *testing.T) {
	const n = 1 << 18
	for _, s := range []api.Shape{shape(1, 1, 16), shape(1, 8, 16), shape(256, 8, 256)} {
		for _, kinds := range []int{1, 2, s.Ways, s.Ways + 1, n} {
			l := make([]api.Use, n)
			for i := range l {
				l[i] = read(uint32((i % kinds) * s.Line * s.Sets))
				if i > n/2 && i%(1+n/64) > s.Ways { // one line, again and again, then the others
					l[i] = read(0)
				}
			}
			c := newCache(t, s)
			for i, want := range predict(t, s, l...) {
				if got := c.Access(l[i].Addr, false); got != want {
					t.Fatalf("%v: use %d: %v, predicted %v", s, i, got, want)
				}
			}
		}
	}
}

func TestWorst(t *testing.T) {
	r := rand.New(rand.NewSource(8))
	for _, s := range shapes() {
		access, flush := cache.Worst(s)
		if access != 20 || flush != s.Sets+8*s.Sets*s.Ways {
			t.Errorf("Worst(%v) = %d, %d", s, access, flush)
		}
		c := newCache(t, s)
		for i, u := range randomUses(r, s, 100) {
			if x := c.Access(u.Addr, u.Write); x.Cycles > access {
				t.Errorf("%v: an access takes %d, at most %d were told", s, x.Cycles, access)
			}
			if i%25 == 24 {
				if cycles, _ := c.Flush(); cycles > flush {
					t.Errorf("%v: a flush takes %d, at most %d were told", s, cycles, flush)
				}
			}
		}
	}
}

// TestWorstIsReached: one more line than there may be, all written.
func TestWorstIsReached(t *testing.T) {
	for _, s := range shapes() {
		access, flush := cache.Worst(s)
		c := newCache(t, s)
		for i := range s.Sets * s.Ways {
			c.Access(uint32(i*s.Line), true)
		}
		if x := c.Access(lastAddr, true); x.Cycles != access {
			t.Errorf("%v: the worst access takes %d, %d were told", s, x.Cycles, access)
		}
		wantFlush(t, c, flush, s.Sets*s.Ways)
	}
}
