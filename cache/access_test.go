package cache_test

import (
	"cmp"
	"math/rand"
	"slices"
	"testing"

	"cloister/api"
	"cloister/cache"
)

// model is a cache by another way: lines by their numbers, each with the time
// at which it was used.
type model struct {
	shape api.Shape
	time  int
	lines map[uint64]modelLine
}

type modelLine struct {
	used  int
	dirty bool
}

func (m *model) set(number uint64) uint64 { return number % uint64(m.shape.Sets) }

// ofSet: the numbers of a set's lines, the one used last first.
func (m *model) ofSet(set uint64) []uint64 {
	var numbers []uint64
	for number := range m.lines {
		if m.set(number) == set {
			numbers = append(numbers, number)
		}
	}
	slices.SortFunc(numbers, func(a, b uint64) int { return cmp.Compare(m.lines[b].used, m.lines[a].used) })
	return numbers
}

func (m *model) access(u api.Use) api.Touch {
	number := uint64(u.Addr) / uint64(m.shape.Line)
	was, there := m.lines[number]
	came := hit
	if !there {
		came = miss
		if l := m.ofSet(m.set(number)); len(l) == m.shape.Ways {
			oldest := l[len(l)-1]
			if m.lines[oldest].dirty {
				came = back
			}
			delete(m.lines, oldest)
		}
	}
	m.time++
	m.lines[number] = modelLine{m.time, was.dirty || u.Write}
	return came
}

func (m *model) all() []api.Line {
	var l []api.Line
	for set := range uint64(m.shape.Sets) {
		for _, number := range m.ofSet(set) {
			l = append(l, api.Line{Set: uint32(set), Tag: uint32(number / uint64(m.shape.Sets)), Dirty: m.lines[number].dirty})
		}
	}
	return l
}

func (m *model) dirty() int {
	n := 0
	for _, l := range m.lines {
		if l.dirty {
			n++
		}
	}
	return n
}

// wantLike holds all that a cache tells of itself against the model.
func wantLike(t *testing.T, c *cache.Cache, m *model, addrs ...uint32) {
	t.Helper()
	if c.Shape() != m.shape {
		t.Fatalf("the shape is %v, want %v", c.Shape(), m.shape)
	}
	if got, want := c.Lines(), m.all(); !slices.Equal(got, want) {
		t.Fatalf("%v: the lines are %v, want %v", m.shape, got, want)
	}
	if got, want := c.Dirty(), m.dirty(); got != want {
		t.Fatalf("%v: %d lines are dirty, want %d", m.shape, got, want)
	}
	for _, addr := range addrs {
		l, there := m.lines[uint64(addr)/uint64(m.shape.Line)]
		wantHolds(t, c, addr, there, l.dirty)
	}
}

// TestAgainstModel: accesses and flushes of all shapes, and what is told
// behind each of them.
func TestAgainstModel(t *testing.T) {
	r := rand.New(rand.NewSource(3))
	for _, s := range shapes() {
		c, m := newCache(t, s), &model{shape: s, lines: map[uint64]modelLine{}}
		for i, u := range randomUses(r, s, 150) {
			if got, want := c.Access(u.Addr, u.Write), m.access(u); got != want {
				t.Fatalf("%v: use %d, %v: %v, want %v", s, i, u, got, want)
			}
			wantLike(t, c, m, u.Addr, u.Addr^uint32(s.Line), u.Addr+uint32(s.Line*s.Sets), 0, lastAddr)
			if r.Intn(60) == 0 {
				n := m.dirty()
				wantFlush(t, c, s.Sets+8*n, n)
				clear(m.lines)
				wantLike(t, c, m, u.Addr, 0, lastAddr)
			}
		}
	}
}

// TestLineOfAddress: which bytes lie in one line, in all shapes.
func TestLineOfAddress(t *testing.T) {
	for _, s := range shapes() {
		line := uint32(s.Line)
		last := lastAddr - line + 1
		for _, from := range []uint32{0, line, 5 * line, 1<<31 - line, 1 << 31, last - line, last} {
			c := newCache(t, s)
			wantTouch(t, c, read(from+line/2), miss)
			for _, addr := range []uint32{from, from + 1, from + line/2, from + line - 1} {
				wantHolds(t, c, addr, true, false)
				wantTouch(t, c, read(addr), hit)
			}
			wantHolds(t, c, from-1, false, false)
			wantHolds(t, c, from+line, false, false)
			number := from / line
			wantLines(t, "one line", c, api.Line{Set: number % uint32(s.Sets), Tag: number / uint32(s.Sets)})
			wantTouch(t, c, read(from-1), miss)
			wantTouch(t, c, read(from+line), miss)
		}
	}
}

// TestFullSet: as many lines as Ways are held, and one more is not.
func TestFullSet(t *testing.T) {
	for _, s := range shapes() {
		c := newCache(t, s)
		apart := uint32(s.Sets * s.Line)
		for i := range s.Ways {
			wantTouch(t, c, write(uint32(i)*apart), miss)
		}
		for i := range s.Ways {
			wantTouch(t, c, read(uint32(i)*apart), hit)
		}
		if c.Dirty() != s.Ways {
			t.Errorf("%v: %d are dirty, want %d", s, c.Dirty(), s.Ways)
		}
		wantTouch(t, c, read(uint32(s.Ways)*apart), back)
		wantHolds(t, c, 0, false, false)
		for i := 1; i <= s.Ways; i++ {
			wantHolds(t, c, uint32(i)*apart, true, i < s.Ways)
		}
	}
}

// TestWhatGoes: of each order in which four lines are used again, the one used
// longest ago goes, dirty or not.
func TestWhatGoes(t *testing.T) {
	for _, order := range orders(4) {
		for dirty := range 16 {
			c := newCache(t, shape(1, 4, 16))
			for i := range 4 {
				c.Access(uint32(16*i), dirty>>i&1 == 1)
			}
			for _, i := range order {
				wantTouch(t, c, read(uint32(16*i)), hit)
			}
			for n, i := range order {
				want := miss
				if dirty>>i&1 == 1 {
					want = back
				}
				wantHolds(t, c, uint32(16*i), true, want == back)
				wantTouch(t, c, read(uint32(1000+16*n)), want)
				wantHolds(t, c, uint32(16*i), false, false)
			}
		}
	}
}

// orders are all orders of n things.
func orders(n int) [][]int {
	if n == 0 {
		return [][]int{{}}
	}
	var all [][]int
	for _, o := range orders(n - 1) {
		for at := range n {
			all = append(all, slices.Insert(slices.Clone(o), at, n-1))
		}
	}
	return all
}

func TestDirty(t *testing.T) {
	c := newCache(t, shape(1, 1, 16))
	wantTouch(t, c, read(0), miss)
	wantHolds(t, c, 0, true, false)
	wantTouch(t, c, write(1), hit)
	wantHolds(t, c, 15, true, true)
	wantTouch(t, c, read(2), hit) // a read cleans nothing
	wantHolds(t, c, 0, true, true)
	wantTouch(t, c, read(16), back)
	wantTouch(t, c, read(0), miss) // it comes back clean
	wantHolds(t, c, 0, true, false)
	wantTouch(t, c, write(16), miss)
	wantTouch(t, c, write(0), back)
	if c.Dirty() != 1 {
		t.Errorf("%d are dirty, want 1", c.Dirty())
	}
}

// TestAskingIsNoUse: what only tells changes no order.
func TestAskingIsNoUse(t *testing.T) {
	c := newCache(t, shape(1, 2, 16))
	c.Access(0, true)
	c.Access(16, false)
	want := c.Lines()
	wantHolds(t, c, 0, true, true)
	wantHolds(t, c, 32, false, false)
	c.Dirty()
	c.Lines()
	c.Shape()
	wantLines(t, "asked", c, want...)
	wantTouch(t, c, read(32), back)
	wantHolds(t, c, 0, false, false)
}

func TestFlush(t *testing.T) {
	for _, s := range shapes() {
		c := newCache(t, s)
		wantFlush(t, c, s.Sets, 0)
		lines := s.Sets * s.Ways
		for i := range lines {
			c.Access(uint32(i*s.Line), i%3 == 0)
		}
		dirty := (lines + 2) / 3
		if c.Dirty() != dirty || len(c.Lines()) != lines {
			t.Fatalf("%v: %d of %d are dirty, want %d of %d", s, c.Dirty(), len(c.Lines()), dirty, lines)
		}
		wantFlush(t, c, s.Sets+8*dirty, dirty)
		wantLines(t, "flushed", c)
		if c.Dirty() != 0 || c.Shape() != s {
			t.Errorf("%v, flushed: %d are dirty, the shape is %v", s, c.Dirty(), c.Shape())
		}
		wantFlush(t, c, s.Sets, 0)
		for i := range lines {
			wantHolds(t, c, uint32(i*s.Line), false, false)
			wantTouch(t, c, read(uint32(i*s.Line)), miss)
		}
	}
}
