package mmu_test

import (
	"math/rand"
	"slices"
	"testing"

	"cloister/api"
)

// ranges: three cells of which each has pages of its own, and shares some with
// another, under another address and with another Perm. No range has a page of
// the tables.
func ranges() [][]api.Range {
	return [][]api.Range{
		{{Virtual: 0, Physical: 2 * pageSize, Pages: 2, Perm: rx}, {Virtual: 4 * pageSize, Physical: 10 * pageSize, Pages: 3, Perm: rw}, one(bigPage-pageSize, 20, 7), one(bigPage, 21, api.Read)},
		{{Virtual: 0, Physical: 4 * pageSize, Pages: 2, Perm: api.Exec}, {Virtual: 5 * pageSize, Physical: 12 * pageSize, Pages: 2, Perm: rw}, one(bigPage, 20, api.Read)},
		{one(0, 21, rw), one(pageSize, 2, api.Read), one(1<<32-pageSize, 0, rw), one(4*pageSize, 39, rw)},
	}
}

// seen is where an address of a cell is, by its ranges alone.
func seen(l []api.Range, at uint32) (uint32, api.Perm, bool) {
	for _, r := range l {
		if at >= r.Virtual && at-r.Virtual < uint32(r.Pages)*pageSize {
			return r.Physical + at - r.Virtual, r.Perm, true
		}
	}
	return 0, 0, false
}

// refused is the fault of an access, by the ranges alone.
func refused(l []api.Range, at uint32, a api.Access) api.Fault {
	_, p, there := seen(l, at)
	switch {
	case !there:
		return api.FaultUnmapped
	case !lets(p, a):
		return api.FaultDenied
	}
	return api.FaultNone
}

// someSeen is an address in or next to a range.
func someSeen(random *rand.Rand, l []api.Range) uint32 {
	r := pick(random, l...)
	at := r.Virtual + uint32(random.Intn(r.Pages+1))*pageSize
	return at + pick(random, 0, 4, 8, 64, 1<<32-4, 1<<32-8, 1<<32-64, uint32(random.Intn(pageSize)))
}

// TestCellsSeeTheirRanges: with no tables in mind: what is stored is where the
// ranges say, each cell loads it there, and no other byte ever changes.
func TestCellsSeeTheirRanges(t *testing.T) {
	random, l := rand.New(rand.NewSource(81)), ranges()
	x := build(t, api.Shape{Sets: 4, Ways: 2, Line: 32}, 3, l...)
	want := x.m.Clone()
	for i := range 20000 {
		k := random.Intn(3)
		at, v, size := someSeen(random, l[k]), random.Uint32(), pick(random, 1, 2, 4)
		at -= at % uint32(size)
		a := pick(random, accesses...)
		to, _, _ := seen(l[k], at)
		fault := refused(l[k], at, a)
		var got uint32
		var f api.Fault
		switch a {
		case api.AccessRead:
			got, _, f = x.u.Load(k+1, at, size)
		case api.AccessExec:
			at -= at % 4
			to, _, _ = seen(l[k], at)
			size = 4
			got, _, f = x.u.Fetch(k+1, at)
		case api.AccessWrite:
			_, f = x.u.Store(k+1, at, size, v)
			if fault == api.FaultNone {
				want.Store(to, size, v)
			}
		}
		value := uint32(0)
		if a != api.AccessWrite && fault == api.FaultNone {
			value, _ = want.Load(to, size)
		}
		if f != fault || got != value {
			t.Fatalf("cell %d, at %#x, access %d: %#x, %d, want %#x, %d", k+1, at, a, got, f, value, fault)
		}
		if i%50 == 0 && !x.m.Equal(want) {
			t.Fatalf("a byte has changed that was not stored")
		}
	}
	if !x.m.Equal(want) {
		t.Errorf("a byte has changed that was not stored")
	}
}

// TestMessagesOfCells: the same of messages: all of them, or nothing.
func TestMessagesOfCells(t *testing.T) {
	random, l := rand.New(rand.NewSource(82)), ranges()
	x := build(t, usual, 2, l...)
	want, done := x.m.Clone(), 0
	for range 4000 {
		k := random.Intn(3)
		at, b := someSeen(random, l[k])&^3, make([]byte, 4*random.Intn(65))
		random.Read(b)
		first := func(a api.Access) api.Fault {
			for i := 0; i < len(b); i += 4 {
				if f := refused(l[k], at+uint32(i), a); f != api.FaultNone {
					return f
				}
			}
			return api.FaultNone
		}
		fault := first(api.AccessWrite)
		if _, f := x.u.Write(k+1, at, b); f != fault {
			t.Fatalf("Write(%d, %#x), %d bytes: %d, want %d", k+1, at, len(b), f, fault)
		}
		for i := 0; fault == api.FaultNone && i < len(b); i++ {
			to, _, _ := seen(l[k], at+uint32(i))
			want.Write(to, b[i:i+1])
			done++
		}
		if !x.m.Equal(want) {
			t.Fatalf("Write(%d, %#x), %d bytes: the memory is another one", k+1, at, len(b))
		}
		fault = first(api.AccessRead)
		got, _, f := x.u.Read(k+1, at, len(b))
		if f != fault || f != api.FaultNone && len(got) > 0 || f == api.FaultNone && len(got) != len(b) {
			t.Fatalf("Read(%d, %#x, %d): %d bytes, %d, want %d", k+1, at, len(b), len(got), f, fault)
		}
		for i := range got {
			to, _, _ := seen(l[k], at+uint32(i))
			if v, _ := want.Load(to, 1); byte(v) != got[i] {
				t.Fatalf("Read(%d, %#x, %d): byte %d is %d, want %d", k+1, at, len(b), i, got[i], v)
			}
		}
	}
	if done < 1000 {
		t.Errorf("only %d bytes were written", done)
	}
}

// answer is what an access tells: a number, bytes, cycles, a fault.
type answer struct {
	v uint32
	b []byte
	n int
	f api.Fault
}

// act is an access at random, which can be done again and again.
func act(random *rand.Rand, l []api.Range) (what int, do func(x machine, cell int) answer) {
	at, v, size := someSeen(random, l), random.Uint32(), pick(random, 1, 2, 4)
	b := make([]byte, 4*random.Intn(65))
	random.Read(b)
	a := pick(random, accesses...)
	what = random.Intn(6)
	return what, func(x machine, cell int) (y answer) {
		switch what {
		case 0:
			y.v, y.n, y.f = x.u.Translate(cell, at, a)
		case 1:
			y.v, y.n, y.f = x.u.Fetch(cell, at&^3)
		case 2:
			y.v, y.n, y.f = x.u.Load(cell, at-at%uint32(size), size)
		case 3:
			y.n, y.f = x.u.Store(cell, at-at%uint32(size), size, v)
		case 4:
			y.b, y.n, y.f = x.u.Read(cell, at&^3, len(b))
		case 5:
			y.n, y.f = x.u.Write(cell, at&^3, b)
		}
		return y
	}
}

// TestWhatIsRememberedIsNotSeen: what is answered, but the cycles, does not
// hang on what TLB and cache have, nor on their shapes.
func TestWhatIsRememberedIsNotSeen(t *testing.T) {
	random, l := rand.New(rand.NewSource(83)), ranges()
	x := build(t, usual, 64, l...)
	y := build(t, smallest, 1, l...)
	for i := range 20000 {
		k := random.Intn(3)
		_, do := act(random, l[k])
		if random.Intn(3) == 0 {
			y.u.Flush()
		}
		one, two := do(x, k+1), do(y, k+1)
		if one.v != two.v || one.f != two.f || !slices.Equal(one.b, two.b) {
			t.Fatalf("step %d: %v and %v", i, one, two)
		}
	}
	if !x.m.Equal(y.m) {
		t.Errorf("the memories are not the same")
	}
}

// TestCosts: at most three misses with their lines written back; the same
// Fetch, Load or Store again, that was not refused, costs 1.
func TestCosts(t *testing.T) {
	random, l := rand.New(rand.NewSource(84)), ranges()
	most := 0
	for _, s := range []api.Shape{smallest, {Sets: 2, Ways: 1, Line: 16}, {Sets: 16, Ways: 2, Line: 64}, usual} {
		x := build(t, s, 1, l...)
		for range 5000 {
			k := random.Intn(3)
			what, do := act(random, l[k])
			got := do(x, k+1)
			if what < 4 {
				most = max(most, got.n)
			}
			if what < 4 && (got.n < 0 || got.n > 60) {
				t.Fatalf("it costs %d", got.n)
			}
			if what >= 1 && what <= 3 && got.f == api.FaultNone {
				if again := do(x, k+1); again.n != 1 || again.v != got.v || again.f != got.f {
					t.Fatalf("%v, and again: %v", got, again)
				}
			}
		}
	}
	if most < 40 {
		t.Errorf("no access cost more than %d", most)
	}
}

// TestCostsBehindFlush: what a cell's accesses cost then hangs on these alone,
// whatever was before, and whatever the memory has.
func TestCostsBehindFlush(t *testing.T) {
	random, l := rand.New(rand.NewSource(85)), ranges()
	for _, s := range []api.Shape{smallest, {Sets: 4, Ways: 2, Line: 32}, usual} {
		x := build(t, s, 3, l...)
		for range 50 {
			for range random.Intn(60) {
				k := random.Intn(3)
				_, do := act(random, l[k])
				do(x, k+1)
			}
			x.u.Flush()
			fresh, k := build(t, s, 3, l...), random.Intn(3)
			for i := range 60 {
				_, do := act(random, l[k])
				one, two := do(x, k+1), do(fresh, k+1)
				if one.n != two.n || one.f != two.f {
					t.Fatalf("access %d behind a Flush: %d, %d, of a new machine %d, %d", i, one.n, one.f, two.n, two.f)
				}
			}
		}
	}
}
