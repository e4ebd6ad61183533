package tables_test

import (
	"math/rand"
	"slices"
	"testing"

	"cloister/api"
	"cloister/memory"
	"cloister/tables"
)

// machine is a memory as plain bytes, with what the chapter says of tables in
// plain words.
type machine []byte

func (b machine) load(at uint64) (uint32, bool) {
	if at%4 != 0 || at+4 > uint64(len(b)) {
		return 0, false
	}
	return uint32(b[at]) | uint32(b[at+1])<<8 | uint32(b[at+2])<<16 | uint32(b[at+3])<<24, true
}

func (b machine) store(at uint64, w uint32) {
	for i := range uint64(4) {
		b[at+i] = byte(w >> (8 * i))
	}
}

func (b machine) has(frame uint32) bool { return int(frame) < len(b)/pageSize }

// kind of a word: 0 none, 1 page, 2 table, 3 malformed.
func kind(w uint32) int {
	switch {
	case w == 0:
		return 0
	case w>>12 > 4095:
		return 3
	case w&0xfff == tableBits:
		return 2
	case slices.Contains([]uint32{3, 7, 9, 11, 15}, w&0xfff):
		return 1
	}
	return 3
}

func (b machine) walk(root, virtual uint32, a api.Access) (uint32, []api.WalkStep, api.Fault) {
	var steps []api.WalkStep
	at := uint64(root) + 4*uint64(virtual>>22)
	for level := 2; ; level-- {
		w, ok := b.load(at)
		if !ok {
			return 0, steps, api.FaultOutside
		}
		steps = append(steps, api.WalkStep{At: uint32(at), Word: w})
		switch {
		case w == 0:
			return 0, steps, api.FaultUnmapped
		case kind(w) != level:
			return 0, steps, api.FaultMalformed
		case level == 2:
			at = uint64(w>>12)*pageSize + 4*uint64(virtual>>12&1023)
			continue
		case !lets(api.Perm(w>>1&7), a):
			return 0, steps, api.FaultDenied
		case !b.has(w >> 12):
			return 0, steps, api.FaultOutside
		}
		return w>>12<<12 + virtual&0xfff, steps, api.FaultNone
	}
}

func (b machine) all(root uint32) []told {
	var l []told
	for first := range uint64(perTable) {
		w, _ := b.load(uint64(root) + 4*first)
		if kind(w) != 2 {
			continue
		}
		for second := range uint64(perTable) {
			x, _ := b.load(uint64(w>>12)*pageSize + 4*second)
			if kind(x) == 1 {
				l = append(l, page(uint32(first<<22|second<<12), api.Perm(x>>1&7), x>>12))
			}
		}
	}
	return l
}

// joined is what Ranges makes of pages.
func joined(l []told) []api.Range {
	var out []api.Range
	for i, x := range l {
		if i > 0 && l[i-1].at+pageSize == x.at && l[i-1].x.Frame+1 == x.x.Frame && l[i-1].x.Perm == x.x.Perm {
			out[len(out)-1].Pages++
		} else {
			out = append(out, one(x.at, x.x.Frame*pageSize, x.x.Perm))
		}
	}
	return out
}

// pagesOf is all pages of ranges, as they come.
func pagesOf(l []api.Range) []told {
	var out []told
	for _, r := range l {
		for i := range uint32(r.Pages) {
			out = append(out, page(r.Virtual+i*pageSize, r.Perm, r.Physical/pageSize+i))
		}
	}
	return out
}

// mapAll is Map of ranges that may be; the arena has the pages free, unless it
// is sealed. How many of these it took.
func (b machine) mapAll(root uint32, free []uint32, sealed bool, l []api.Range) (int, api.Errno) {
	pages := pagesOf(l)
	where := map[uint32]uint64{} // tables that the root tells, or that are taken
	var wanted []uint32
	for i, p := range pages {
		for _, o := range pages[:i] {
			if o.at == p.at {
				return 0, api.ErrTablesThere
			}
		}
		w, _ := b.load(uint64(root) + 4*uint64(p.at>>22))
		switch {
		case w == 0:
			if !slices.Contains(wanted, p.at>>22) {
				wanted = append(wanted, p.at>>22)
			}
			continue
		case kind(w) != 2 || !b.has(w>>12):
			return 0, api.ErrTablesThere
		}
		where[p.at>>22] = uint64(w>>12) * pageSize
		if x, _ := b.load(where[p.at>>22] + 4*uint64(p.at>>12&1023)); x != 0 {
			return 0, api.ErrTablesThere
		}
	}
	switch {
	case len(wanted) > 0 && sealed:
		return 0, api.ErrTablesSealed
	case len(wanted) > len(free):
		return 0, api.ErrTablesFull
	}
	for i, first := range wanted {
		clear(b[free[i] : free[i]+pageSize])
		b.store(uint64(root)+4*uint64(first), free[i]|tableBits)
		where[first] = uint64(free[i])
	}
	for _, p := range pages {
		b.store(where[p.at>>22]+4*uint64(p.at>>12&1023), pageWord(p.x.Perm, p.x.Frame))
	}
	return len(wanted), api.OK
}

// someWord is one that a table of a memory of so many pages may have, or not.
func someWord(random *rand.Rand, pages int) uint32 {
	frame := uint32(random.Intn(pages + 2))
	switch random.Intn(12) {
	case 0:
		return random.Uint32()
	case 1:
		return malformed[random.Intn(len(malformed))]
	case 2, 3, 4:
		return tableWord(frame)
	case 5, 6, 7, 8:
		return pageWord(perms[random.Intn(len(perms))], frame)
	case 9:
		return pageWord(1, uint32(random.Intn(mostPages)))
	}
	return 0
}

// someTables is a memory full of such words.
func someTables(t *testing.T, random *rand.Rand) *memory.Memory {
	t.Helper()
	pages := 1 + random.Intn(5)
	m := newMemory(t, pages)
	for i := range uint32(pages * perTable) {
		if random.Intn(3) > 0 {
			setWord(t, m, 4*i, someWord(random, pages))
		}
	}
	for range 6 { // rows of pages, to be joined
		at, frame, p := random.Intn(pages*perTable-9), uint32(random.Intn(9)), perms[random.Intn(len(perms))]
		for i := range uint32(1 + random.Intn(9)) {
			setWord(t, m, uint32(4*at)+4*i, pageWord(p, frame+i))
		}
	}
	return m
}

func someRoot(random *rand.Rand, pages int) uint32 {
	switch random.Intn(6) {
	case 0:
		return random.Uint32()
	case 1:
		return uint32(random.Intn((pages + 1) * pageSize))
	case 2, 3:
		return uint32(4 * random.Intn((pages+1)*perTable))
	}
	return uint32(random.Intn(pages) * pageSize)
}

// TestWhateverIsThere: walks, pages and ranges over whatever a memory holds.
func TestWhateverIsThere(t *testing.T) {
	for seed := range int64(30) {
		random := rand.New(rand.NewSource(seed))
		m := someTables(t, random)
		b := machine(content(t, m))
		for range 8 {
			root := someRoot(random, m.Pages())
			for range 400 {
				virtual, a := random.Uint32(), someAccesses[random.Intn(len(someAccesses))]
				if random.Intn(2) == 0 {
					a = accesses[random.Intn(len(accesses))]
				}
				at, steps, f := b.walk(root, virtual, a)
				wantWalk(t, m, root, virtual, a, at, f, steps...)
			}
		}
		for range 2 {
			root := someRoot(random, m.Pages())
			all := b.all(root)
			if got := collect(tables.All(m, root), many); !slices.Equal(got, all) {
				t.Errorf("seed %d: All(%x) tells %d pages, want %d", seed, root, len(got), len(all))
			}
			wantRanges(t, "whatever is there", m, root, joined(all)...)
		}
		if !slices.Equal(content(t, m), b) {
			t.Errorf("seed %d: reading has written", seed)
		}
	}
}

// someRanges are a few that may be, near to one another.
func someRanges(random *rand.Rand) []api.Range {
	l := make([]api.Range, random.Intn(4))
	for i := range l {
		page := uint32(random.Intn(3)*perTable + random.Intn(6))
		if random.Intn(3) == 0 {
			page += perTable - 3
		}
		l[i] = some(page*pageSize, uint32(random.Intn(9))*pageSize, 1+random.Intn(3), perms[random.Intn(len(perms))])
	}
	return l
}

// TestMapWhateverIsThere: Map where others have written into the tables.
func TestMapWhateverIsThere(t *testing.T) {
	count := map[api.Errno]int{}
	for seed := range int64(300) {
		random := rand.New(rand.NewSource(seed))
		pages := 4 + random.Intn(3)
		m := newMemory(t, pages)
		base, n := random.Intn(2), 1+random.Intn(3)
		a := newArena(t, m, uint32(base*pageSize), n)
		s := newSpace(t, a)
		for range 12 {
			if random.Intn(2) == 0 { // into the root, or anywhere near the beginning of a page
				at := s.Root() + 4*uint32(random.Intn(5))
				if random.Intn(2) == 0 {
					at = uint32(random.Intn(pages)*pageSize + 4*random.Intn(9))
				}
				setWord(t, m, at, []uint32{0, tableWord(uint32(random.Intn(pages + 1))), someWord(random, pages)}[random.Intn(3)])
			}
			if random.Intn(20) == 0 {
				a.Seal()
			}
			b, l := machine(content(t, m)), someRanges(random)
			var free []uint32
			for i := a.Taken(); i < n; i++ {
				free = append(free, uint32((base+i)*pageSize))
			}
			took, want := b.mapAll(s.Root(), free, a.Sealed(), l)
			if e := s.Map(l...); e != want {
				t.Fatalf("seed %d: Map(%x) = %d, want %d", seed, l, e, want)
			}
			count[want]++
			wantArena(t, "whatever is there", a, len(free)-took, n-len(free)+took)
			if !slices.Equal(content(t, m), b) {
				t.Fatalf("seed %d: Map(%x) has written otherwise", seed, l)
			}
		}
	}
	for _, e := range []api.Errno{api.OK, api.ErrTablesThere, api.ErrTablesFull, api.ErrTablesSealed} {
		if count[e] < 20 {
			t.Errorf("the error %d came %d times: this tells little", e, count[e])
		}
	}
}

// wantSeen: each page is walked to, at its ends and between, with the accesses
// that its Perm lets by; next to it nothing is, unless it is one of these.
func wantSeen(t *testing.T, m *memory.Memory, root uint32, pages []told) {
	t.Helper()
	there := map[uint32]bool{}
	for _, p := range pages {
		there[p.at] = true
	}
	for _, p := range pages {
		for _, a := range someAccesses {
			at, steps, f := tables.Walk(m, root, p.at+0x5a5, a)
			want, fault := p.x.Frame*pageSize+0x5a5, api.FaultNone
			switch {
			case !lets(p.x.Perm, a):
				want, fault = 0, api.FaultDenied
			case int(p.x.Frame) >= m.Pages():
				want, fault = 0, api.FaultOutside
			}
			if at != want || f != fault || len(steps) != 2 {
				t.Fatalf("Walk(%x, %x, %d) = %x, %x, %d, want %x, %d", root, p.at+0x5a5, a, at, steps, f, want, fault)
			}
		}
		for _, next := range []uint32{p.at - pageSize, p.at + pageSize, p.at ^ 1<<22, p.at ^ 1<<31, p.at ^ 1<<21} {
			for _, a := range someAccesses {
				at, _, f := tables.Walk(m, root, next, a)
				if !there[next] && (at != 0 || f != api.FaultUnmapped) {
					t.Fatalf("Walk(%x, %x, %d) = %x, %d, and nothing is there", root, next, a, at, f)
				}
			}
		}
	}
}

// TestWhatWasMapped: it is walked to, and told; and what Ranges tells, mapped
// into another space, is walked alike.
func TestWhatWasMapped(t *testing.T) {
	for seed := range int64(40) {
		random := rand.New(rand.NewSource(seed))
		m := newMemory(t, 200)
		m.Fill(0, 200*pageSize, byte(random.Intn(256)))
		a := newArena(t, m, uint32(random.Intn(20)*pageSize), 60)
		s, other := newSpace(t, a), newSpace(t, a)
		var pages []told
		for range 6 {
			l := []api.Range{farRange(random), farRange(random)}
			took, before := a.Taken(), len(pages)
			e := s.Map(l...)
			if e == api.OK {
				pages = append(pages, pagesOf(l)...)
			}
			if before == 0 && e == api.OK && a.Taken()-took != tables.Need(l...)-1 {
				t.Errorf("seed %d: %d pages were taken, and Need is %d", seed, a.Taken()-took, tables.Need(l...))
			}
		}
		slices.SortFunc(pages, func(a, b told) int { return int(int64(a.at) - int64(b.at)) })
		wantSeen(t, m, s.Root(), pages)
		wantTold(t, "mapped", collect(tables.All(m, s.Root()), many), pages...)
		l := tables.Ranges(m, s.Root())
		if !slices.Equal(l, joined(pages)) {
			t.Errorf("seed %d: Ranges = %x, want %x", seed, l, joined(pages))
		}
		left := a.Left()
		wantMapped(t, other, l...)
		if left-a.Left() != tables.Need(l...)-1 {
			t.Errorf("seed %d: %d pages were taken, and Need is %d", seed, left-a.Left(), tables.Need(l...))
		}
		wantSeen(t, m, other.Root(), pages)
		wantRanges(t, "mapped once more", m, other.Root(), l...)
	}
}

// farRange is one anywhere, small ones and great ones.
func farRange(random *rand.Rand) api.Range {
	frame := random.Intn(mostPages)
	most := mostPages - frame
	if random.Intn(3) > 0 {
		frame, most = random.Intn(180), 20
	}
	page := random.Intn(1 << 20)
	switch random.Intn(6) {
	case 0:
		page = 1<<20 - 1 - random.Intn(20)
	case 1:
		page = random.Intn(20)
	case 2:
		page = perTable*(1+random.Intn(3)) - random.Intn(3)
	}
	n := 1 + random.Intn(min(most, 30))
	return some(uint32(page)*pageSize, uint32(frame)*pageSize, min(n, 1<<20-page), perms[random.Intn(len(perms))])
}
