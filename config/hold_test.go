package config_test

import (
	"bytes"
	"math/rand"
	"reflect"
	"sync"
	"testing"

	"cloister/api"
	"cloister/config"
)

// within is often a bound of a field with so many bits.
func within(random *rand.Rand, bits int) uint64 {
	most := uint64(1)<<(bits-1)<<1 - 1
	switch random.Intn(4) {
	case 0:
		return 0
	case 1:
		return most
	}
	return random.Uint64() & most >> random.Intn(bits)
}

func manyOf[T any](random *rand.Rand, most int, one func() T) []T {
	list := make([]T, random.Intn(most+1))
	for i := range list {
		list[i] = one()
	}
	return list
}

// anyConfig is one that can be written, with up to so many things of each kind.
func anyConfig(random *rand.Rand, most int) api.Config {
	number := func(bits int) func() int { return func() int { return int(within(random, bits)) } }
	byteOf, halfOf, wordOf := number(8), number(16), number(32)
	word := func() uint32 { return uint32(within(random, 32)) }
	return api.Config{
		Pages: wordOf(), OwnBase: word(), OwnPages: wordOf(),
		Shape: api.Shape{Sets: halfOf(), Ways: halfOf(), Line: halfOf()},
		Slots: halfOf(), Major: within(random, 64),
		Cells: manyOf(random, most, func() api.Cell {
			name := make([]byte, random.Intn(2*most+1))
			random.Read(name)
			return api.Cell{Name: string(name), Entry: word(), Lines: manyOf(random, most+4, byteOf), Ranges: manyOf(random, most, func() api.Range {
				return api.Range{Virtual: word(), Physical: word(), Pages: wordOf(), Perm: api.Perm(byteOf())}
			})}
		}),
		Windows: manyOf(random, most, func() api.Window {
			return api.Window{Cell: byteOf(), Start: within(random, 64), Length: within(random, 64)}
		}),
		Samples: manyOf(random, most, func() api.Sample {
			return api.Sample{Writer: byteOf(), Size: halfOf(), Readers: manyOf(random, most+4, byteOf)}
		}),
		Queues: manyOf(random, most, func() api.Queue {
			return api.Queue{Writer: byteOf(), Reader: byteOf(), Size: halfOf(), Depth: halfOf(), Quota: halfOf(), Flow: random.Intn(2) == 0}
		}),
	}
}

// TestOneForm: what can be written is written as the model says, and is read
// again as what it was.
func TestOneForm(t *testing.T) {
	random := rand.New(rand.NewSource(3))
	for i := range 3000 {
		g := anyConfig(random, 1+i%9)
		kept := plain(g)
		blob := modelBlob(g)
		wantEncode(t, "a configuration", g, blob, api.OK)
		wantDecode(t, "a configuration", blob, g, api.OK, 0)
		if !reflect.DeepEqual(plain(g), kept) {
			t.Fatalf("%+v was changed", kept)
		}
	}
}

// scribble changes every list of a configuration, with all the room that it has.
func scribble(g *api.Config) {
	cells := g.Cells[:cap(g.Cells)]
	for i := range cells {
		c := &cells[i]
		fill(c.Ranges, api.Range{Pages: -1})
		fill(c.Lines, -1)
		*c = api.Cell{Name: "gone"}
	}
	samples := g.Samples[:cap(g.Samples)]
	for i := range samples {
		fill(samples[i].Readers, -1)
		samples[i] = api.Sample{Size: -1}
	}
	fill(g.Windows, api.Window{Cell: -1})
	fill(g.Queues, api.Queue{Size: -1})
}

func fill[T any](list []T, with T) {
	list = list[:cap(list)]
	for i := range list {
		list[i] = with
	}
}

// roomy is the same, each list with room behind it in which something stands.
func roomy(g api.Config) api.Config {
	for i := range g.Cells {
		c := &g.Cells[i]
		c.Ranges = append(c.Ranges, api.Range{Pages: 77})[:len(c.Ranges)]
		c.Lines = append(c.Lines, 77)[:len(c.Lines)]
	}
	for i := range g.Samples {
		s := &g.Samples[i]
		s.Readers = append(s.Readers, 77)[:len(s.Readers)]
	}
	g.Cells = append(g.Cells, api.Cell{Name: "room"})[:len(g.Cells)]
	g.Windows = append(g.Windows, api.Window{Cell: 77})[:len(g.Windows)]
	g.Samples = append(g.Samples, api.Sample{Size: 77})[:len(g.Samples)]
	g.Queues = append(g.Queues, api.Queue{Size: 77})[:len(g.Queues)]
	return g
}

// roomIsKept tells whether what roomy laid behind the lists still stands there.
func roomIsKept(g api.Config) bool {
	kept := g.Cells[:len(g.Cells)+1][len(g.Cells)].Name == "room" &&
		g.Windows[:len(g.Windows)+1][len(g.Windows)].Cell == 77 &&
		g.Samples[:len(g.Samples)+1][len(g.Samples)].Size == 77 &&
		g.Queues[:len(g.Queues)+1][len(g.Queues)].Size == 77
	for _, c := range g.Cells {
		kept = kept && c.Ranges[:len(c.Ranges)+1][len(c.Ranges)].Pages == 77 && c.Lines[:len(c.Lines)+1][len(c.Lines)] == 77
	}
	for _, s := range g.Samples {
		kept = kept && s.Readers[:len(s.Readers)+1][len(s.Readers)] == 77
	}
	return kept
}

func TestMemoryOfItsOwn(t *testing.T) {
	random := rand.New(rand.NewSource(4))
	for range 500 {
		g := roomy(anyConfig(random, 5))
		kept := plain(g)

		c := config.Clone(g)
		scribble(&c)
		blob, e := config.Encode(g)
		if !reflect.DeepEqual(plain(g), kept) || !roomIsKept(g) || e != api.OK {
			t.Fatalf("what is done to a clone is done to %+v", g)
		}
		c = config.Clone(g)
		d, _, _ := config.Decode(blob)
		again, _, _ := config.Decode(blob)
		if !config.Equal(c, d) || !roomIsKept(g) {
			t.Fatalf("%+v is not %+v", c, d)
		}
		scribble(&g)
		scribble(&again)
		fill(blob, 0xee)
		if !reflect.DeepEqual(plain(c), kept) || !reflect.DeepEqual(plain(d), kept) {
			t.Fatalf("what is done to others is done to %+v, %+v", c, d)
		}
	}
}

// TestListsKnowNothingOfEachOther: what is appended to a list, or changed in
// it, is seen in none of the others of the same answer.
func TestListsKnowNothingOfEachOther(t *testing.T) {
	for name, g := range map[string]api.Config{"a clone": config.Clone(small()), "what was read": read(t, small())} {
		for i := range g.Cells {
			c := &g.Cells[i]
			c.Ranges = append(c.Ranges, api.Range{Pages: 1})
			c.Lines = append(c.Lines, 1)
			fill(c.Ranges, api.Range{Pages: 100 + i})
			fill(c.Lines, 100+i)
		}
		for i := range g.Samples {
			s := &g.Samples[i]
			s.Readers = append(s.Readers, 1)
			fill(s.Readers, 200+i)
		}
		for i, c := range g.Cells {
			for _, r := range c.Ranges {
				if r != (api.Range{Pages: 100 + i}) {
					t.Errorf("%s: a range of cell %d is %+v", name, i, r)
				}
			}
			for _, n := range c.Lines {
				if n != 100+i {
					t.Errorf("%s: a line of cell %d is %d", name, i, n)
				}
			}
		}
		for i, s := range g.Samples {
			for _, n := range s.Readers {
				if n != 200+i {
					t.Errorf("%s: a reader of sample %d is %d", name, i, n)
				}
			}
		}
	}
}

func read(t *testing.T, g api.Config) api.Config {
	t.Helper()
	d, e, place := config.Decode(modelBlob(g))
	if e != api.OK {
		t.Fatalf("Decode: %d at %d", e, place)
	}
	return d
}

// TestBlobsAreNew: what is done to a blob is seen in no other.
func TestBlobsAreNew(t *testing.T) {
	g := small()
	a, _ := config.Encode(g)
	b, _ := config.Encode(g)
	fill(a, 0xee)
	if !bytes.Equal(b, sealed(smallBody())) {
		t.Errorf("% x", b)
	}
	wantEncode(t, "once more", g, b, api.OK)
}

// TestManyAtOnce: calls know nothing of one another, and write into nothing
// that was handed in (the race detector would tell).
func TestManyAtOnce(t *testing.T) {
	g, blob := small(), sealed(smallBody())
	var all sync.WaitGroup
	for range 8 {
		all.Go(func() {
			for range 50 {
				b, _ := config.Encode(g)
				d, _, _ := config.Decode(blob)
				if !bytes.Equal(b, blob) || !config.Equal(g, d) || !config.Equal(config.Clone(g), d) {
					t.Error("another answer")
				}
			}
		})
	}
	all.Wait()
}
