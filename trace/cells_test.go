package trace_test

import (
	"hash/crc32"
	"math"
	"math/rand"
	"slices"
	"testing"

	"cloister/api"
	"cloister/trace"
)

// of is a cell's observations.
func of(cell int, l []api.Obs) []api.Obs {
	var own []api.Obs
	for _, o := range l {
		if o.Cell == cell {
			own = append(own, o)
		}
	}
	return own
}

// anything is an observation of any numbers, whether it may be or not; of few
// cells, so that each has some.
func anything(random *rand.Rand) api.Obs {
	o := anyObs(random)
	switch random.Intn(4) {
	case 0:
		o.Kind = pick(random, 0, -1, 8, o.Kind, 262, math.MaxInt)
	case 1:
		o.A, o.B = anyWord(random), anyWord(random)
	case 2:
		o.Tick += uint64(random.Intn(2)) << 63
	}
	o.Cell = pick(random, cells...)
	return o
}

var cells = []int{1, 2, 8, 0, 9, -1, 257, math.MinInt, math.MaxInt}

// anythings is a list of these, of which some are the same.
func anythings(random *rand.Rand, n int) []api.Obs {
	l := make([]api.Obs, n)
	for i := range l {
		l[i] = anything(random)
		if i > 0 && random.Intn(3) == 0 {
			l[i] = l[random.Intn(i)]
		}
	}
	return l
}

// TestOf: of any number, in their order, whether they may be or not.
func TestOf(t *testing.T) {
	random := rand.New(rand.NewSource(227))
	for range 500 {
		l := anythings(random, random.Intn(40))
		for _, cell := range cells {
			if got := slices.Collect(trace.Of(cell, l...)); !slices.Equal(got, of(cell, l)) {
				t.Fatalf("Of(%d, %v) = %v", cell, l, got)
			}
		}
	}
	for range trace.Of(1) {
		t.Error("Of nothing tells something")
	}
	for range trace.Of(3, api.Obs{Cell: 2}, api.Obs{Cell: 4}) {
		t.Error("Of others tells something")
	}
}

// TestOfStops: when the caller does; and it can be ranged over again, also
// within itself.
func TestOfStops(t *testing.T) {
	l := []api.Obs{{Cell: 2, A: 1}, {Cell: 1, A: 2}, {Cell: 1, A: 3}, {Cell: 2}, {Cell: 1, A: 4}}
	all := trace.Of(1, l...)
	var told []uint32
	for o := range all {
		told = append(told, o.A)
		for p := range all {
			if told = append(told, 10*p.A); p.A == 3 {
				break
			}
		}
		if o.A == 3 {
			break
		}
	}
	if want := []uint32{2, 20, 30, 3, 20, 30}; !slices.Equal(told, want) {
		t.Errorf("ranged within itself: %v, want %v", told, want)
	}
	for n := range 5 {
		got := 0
		all(func(api.Obs) bool {
			got++
			return got < n
		})
		if want := min(max(n, 1), 3); got != want {
			t.Errorf("stopped behind %d: %d were told", n, got)
		}
	}
	if got := slices.Collect(all); !slices.Equal(got, of(1, l)) {
		t.Errorf("in the end: %v", got)
	}
}

// TestOfAsItWas: when Of was called, whatever was done to the list since then.
func TestOfAsItWas(t *testing.T) {
	l := []api.Obs{{Cell: 1, A: 1}, {Cell: 2, A: 2}, {Cell: 1, A: 3}}
	want := of(1, l)
	all := trace.Of(1, l...)
	l[0].A, l[1].Cell, l[2].Cell = 7, 1, 2
	if got := slices.Collect(all); !slices.Equal(got, want) {
		t.Errorf("Of a list that was changed = %v, want %v", got, want)
	}
	var got []api.Obs
	for o := range all {
		got = append(got, o)
		l[2] = api.Obs{Cell: 1, A: 9}
	}
	if !slices.Equal(got, want) {
		t.Errorf("Of a list that is changed = %v, want %v", got, want)
	}
}

// TestDigest: of the rows of those that may be.
func TestDigest(t *testing.T) {
	random := rand.New(rand.NewSource(228))
	others := 0
	for range 1000 {
		l := anythings(random, random.Intn(40))
		for _, cell := range cells {
			own := slices.DeleteFunc(of(cell, l), func(o api.Obs) bool { return !mayBe(o) })
			if got, want := trace.Digest(cell, l...), crc32.ChecksumIEEE(rowsOf(own...)); got != want {
				t.Fatalf("Digest(%d, %v) = %x, want %x", cell, l, got, want)
			}
			if len(own) == 0 && trace.Digest(cell, l...) != 0 {
				t.Fatal("Digest of none is not 0")
			}
			if len(own) > 0 && len(own) < len(of(cell, l)) {
				others++
			}
		}
	}
	if trace.Digest(1) != 0 || others < 500 {
		t.Errorf("Digest of nothing = %x; %d lists have some that may not be", trace.Digest(1), others)
	}
}

// TestDigestByHand: of one row, whose sum is known.
func TestDigestByHand(t *testing.T) {
	o := api.Obs{Tick: 0x3837363534333231, Cell: 1, Kind: api.ObsLoad, PC: 2, A: 3, B: 4}
	want := crc32.ChecksumIEEE([]byte("12345678\x01\x01\x02\x00\x00\x00\x03\x00\x00\x00\x04\x00\x00\x00"))
	if got := trace.Digest(1, api.Obs{Cell: 1}, o, api.Obs{Cell: 2, Kind: api.ObsHalt}); got != want {
		t.Errorf("Digest = %x, want %x", got, want)
	}
}

// changed is an observation with another number each, by the lowest bit and by
// the highest one.
func changed(o api.Obs) map[string]api.Obs {
	l := map[string]api.Obs{}
	for name, change := range map[string]func(o *api.Obs){
		"Tick": func(o *api.Obs) { o.Tick ^= 1 }, "Tick's top": func(o *api.Obs) { o.Tick ^= 1 << 62 },
		"Kind": func(o *api.Obs) { o.Kind ^= 3 },
		"PC":   func(o *api.Obs) { o.PC ^= 1 }, "PC's top": func(o *api.Obs) { o.PC ^= 1 << 31 },
		"A": func(o *api.Obs) { o.A ^= 1 }, "A's top": func(o *api.Obs) { o.A ^= 1 << 31 },
		"B": func(o *api.Obs) { o.B ^= 1 }, "B's top": func(o *api.Obs) { o.B ^= 1 << 31 },
	} {
		p := o
		change(&p)
		l[name] = p
	}
	return l
}

// TestDigestTellsApart: in each number, and in the order.
func TestDigestTellsApart(t *testing.T) {
	o := api.Obs{Tick: 5, Cell: 1, Kind: api.ObsLoad, PC: 6, A: 7, B: 8}
	p := api.Obs{Tick: 6, Cell: 1, Kind: api.ObsHalt, PC: 10}
	lists := map[string][]api.Obs{"both": {o, p}, "turned": {p, o}, "one": {o}, "the other": {p}, "none": {}, "twice": {o, o}}
	for name, other := range changed(o) {
		lists[name] = []api.Obs{other, p}
	}
	sums := map[uint32]string{}
	for name, l := range lists {
		sum := trace.Digest(1, l...)
		if other, there := sums[sum]; there {
			t.Errorf("%s and %s have the same digest", name, other)
		}
		sums[sum] = name
	}
}

// parted is the chapter's words.
func parted(cell int, a, b []api.Obs) int {
	a, b = of(cell, a), of(cell, b)
	for at := 0; ; at++ {
		switch {
		case at >= len(a) && at >= len(b):
			return -1
		case at >= len(a) || at >= len(b) || a[at] != b[at]:
			return at
		}
	}
}

func wantPart(t *testing.T, cell int, a, b []api.Obs, want int) {
	t.Helper()
	if got := trace.Part(cell, a, b); got != want {
		t.Errorf("Part(%d, %v, %v) = %d, want %d", cell, a, b, got, want)
	}
	if got := trace.Part(cell, b, a); got != want {
		t.Errorf("Part(%d, %v, %v) = %d, want %d", cell, b, a, got, want)
	}
}

func TestPart(t *testing.T) {
	o := api.Obs{Tick: 5, Cell: 1, Kind: api.ObsLoad, PC: 6, A: 7, B: 8}
	p := api.Obs{Tick: 5, Cell: 2, Kind: api.ObsLoad, PC: 6, A: 7, B: 8}
	wantPart(t, 1, nil, nil, -1)
	wantPart(t, 1, nil, []api.Obs{}, -1)
	wantPart(t, 1, nil, []api.Obs{p, p}, -1)
	wantPart(t, 1, nil, []api.Obs{o}, 0)
	wantPart(t, 1, []api.Obs{o}, []api.Obs{o}, -1)
	wantPart(t, 1, []api.Obs{o}, []api.Obs{o, o}, 1)
	wantPart(t, 1, []api.Obs{o, o, p}, []api.Obs{o, p, p, o}, -1)
	wantPart(t, 1, []api.Obs{p, o, p, o, o}, []api.Obs{o, o}, 2)
	wantPart(t, 2, []api.Obs{p, o, p, o, o}, []api.Obs{o, o}, 0)
	wantPart(t, 3, []api.Obs{p, o}, []api.Obs{o}, -1)
	for _, other := range changed(o) {
		wantPart(t, 1, []api.Obs{o, o, o}, []api.Obs{o, other, o}, 1)
		wantPart(t, 1, []api.Obs{o, p, o}, []api.Obs{p, o, other}, 1)
	}
	// Those that may not be count, too.
	none := api.Obs{Cell: 1, Kind: 99}
	wantPart(t, 1, []api.Obs{none, o}, []api.Obs{none, o}, -1)
	wantPart(t, 1, []api.Obs{none, o}, []api.Obs{o}, 0)
	for _, cell := range cells {
		first, second, third := api.Obs{Cell: cell}, api.Obs{Cell: cell, A: 1}, api.Obs{Cell: cell, A: 2}
		other := api.Obs{Cell: 5}
		wantPart(t, cell, []api.Obs{first, other, second}, []api.Obs{other, first, third}, 1)
		wantPart(t, 5, []api.Obs{first, other, second}, []api.Obs{other, first, third}, -1)
	}
}

func TestPartOfAny(t *testing.T) {
	random := rand.New(rand.NewSource(229))
	same, apart := 0, 0
	for range 3000 {
		a := anythings(random, random.Intn(30))
		b := slices.Clone(a)
		for range random.Intn(3) {
			at := random.Intn(len(b) + 1)
			switch {
			case random.Intn(2) == 0 || at == len(b):
				b = slices.Insert(b, at, anything(random))
			case random.Intn(2) == 0:
				b = slices.Delete(b, at, at+1)
			default:
				b[at] = anything(random)
			}
		}
		for _, cell := range cells {
			want := parted(cell, a, b)
			if wantPart(t, cell, a, b, want); want < 0 {
				same++
				if trace.Digest(cell, a...) != trace.Digest(cell, b...) {
					t.Fatalf("two that do not part have other digests")
				}
			} else {
				apart++
			}
		}
	}
	if same < 1000 || apart < 1000 {
		t.Errorf("%d do not part, %d do: the test asks too little", same, apart)
	}
}
