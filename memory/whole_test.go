package memory_test

import (
	"bytes"
	"math/rand"
	"slices"
	"sync"
	"testing"

	"cloister/api"
	"cloister/memory"
)

// sparse is a memory with bytes in the pages 2, 5, 9 and 4095, and pages that
// were written with noughts alone, or are so again.
func sparse(t *testing.T) *memory.Memory {
	t.Helper()
	m := newMemory(t, 4096)
	m.Store(4095*pageSize+4095, 1, 45)
	m.Store(9*pageSize, 1, 9)
	m.Store(2*pageSize+2048, 4, 0x22)
	m.Write(5*pageSize, bytes.Repeat([]byte{5}, pageSize))
	m.Store(3*pageSize, 4, 0)
	m.Fill(7*pageSize, pageSize, 0)
	m.Write(6*pageSize, make([]byte, 100))
	m.Copy(8*pageSize, 100*pageSize, 100)
	m.Store(0, 4, 1)
	m.Store(0, 1, 0)
	return m
}

var sparseNumbers = []uint32{2, 5, 9, 4095}

func numbers(m *memory.Memory) []uint32 {
	var got []uint32
	for number := range m.All() {
		got = append(got, number)
	}
	return got
}

func wantNumbers(t *testing.T, what string, got []uint32, want ...uint32) {
	t.Helper()
	if !slices.Equal(got, want) {
		t.Errorf("%s: pages %v, want %v", what, got, want)
	}
}

func TestAllTellsWhatIsNotNought(t *testing.T) {
	m := sparse(t)
	var got []uint32
	for number, b := range m.All() {
		got = append(got, number)
		want, _ := m.Read(number*pageSize, pageSize)
		if !bytes.Equal(b, want) {
			t.Errorf("page %d: %d bytes, or others", number, len(b))
		}
	}
	wantNumbers(t, "All", got, sparseNumbers...)
}

// TestAllByRisingNumbers: never in the order of a map.
func TestAllByRisingNumbers(t *testing.T) {
	m := newMemory(t, 4096)
	for i := range uint32(4096) {
		m.Store((i*2731%4096)*pageSize+i, 1, 1)
	}
	want := uint32(0)
	for number := range m.All() {
		if number != want {
			t.Fatalf("page %d, want %d", number, want)
		}
		want++
	}
	if want != 4096 {
		t.Errorf("All tells %d pages", want)
	}
}

// TestAllSeesEachByteOfAPage: one byte that is not 0 is enough, wherever.
func TestAllSeesEachByteOfAPage(t *testing.T) {
	m := newMemory(t, 2)
	for at := range uint32(pageSize) {
		m.Store(pageSize+at, 1, 0x80)
		wantNumbers(t, "one byte", numbers(m), 1)
		m.Store(pageSize+at, 1, 0)
		if t.Failed() {
			t.Fatalf("at %d", at)
		}
	}
	wantNumbers(t, "no byte", numbers(m))
}

func TestAllLeftEarly(t *testing.T) {
	m := sparse(t)
	all := m.All()
	for most := range 5 {
		var got []uint32
		for number := range all {
			got = append(got, number)
			if len(got) > most {
				break
			}
		}
		wantNumbers(t, "left early", got, sparseNumbers[:min(most+1, 4)]...)
	}
	asked := 0
	all(func(uint32, []byte) bool { asked++; return asked < 2 })
	if asked != 2 {
		t.Errorf("one that stops at the second is asked %d times", asked)
	}
}

func TestAllWithinItself(t *testing.T) {
	m := sparse(t)
	all := m.All()
	var outer []uint32
	for a, first := range all {
		outer = append(outer, a)
		spoil(first)
		var inner []uint32
		for b, second := range all {
			inner = append(inner, b)
			if want, _ := m.Read(b*pageSize, pageSize); !bytes.Equal(second, want) {
				t.Errorf("page %d within page %d: other bytes", b, a)
			}
			for c := range all {
				if c != 2 {
					t.Errorf("a third range begins with page %d", c)
				}
				break
			}
			spoil(second)
		}
		wantNumbers(t, "the inner range", inner, sparseNumbers...)
	}
	wantNumbers(t, "the outer range", outer, sparseNumbers...)
}

// TestAllAsItBegan: what is done to the memory meanwhile is not seen, but by
// ranges that begin later.
func TestAllAsItBegan(t *testing.T) {
	m := sparse(t)
	before := m.Clone()
	all := m.All()
	var got []uint32
	for number, b := range all {
		got = append(got, number)
		m.Fill(5*pageSize, 5*pageSize, 0)
		m.Store(4095*pageSize, 4, number+1)
		m.Store((number+1)%4096*pageSize, 1, 1)
		m.Write(200*pageSize, []byte{1})
		if want, _ := before.Read(number*pageSize, pageSize); !bytes.Equal(b, want) {
			t.Errorf("page %d is not as it was", number)
		}
	}
	wantNumbers(t, "with writes meanwhile", got, sparseNumbers...)
	wantNumbers(t, "the same, ranged over again", numbers(m), 0, 2, 3, 10, 200, 4095)
	got = nil
	for number := range all {
		got = append(got, number)
	}
	wantNumbers(t, "an iterator from before", got, 0, 2, 3, 10, 200, 4095)
}

// TestAllBeginsWithTheRange: not with the call of All.
func TestAllBeginsWithTheRange(t *testing.T) {
	m := newMemory(t, 3)
	m.Store(0, 1, 1)
	all := m.All()
	m.Store(0, 1, 0)
	m.Store(pageSize, 1, 2)
	for number, b := range all {
		if number != 1 || b[0] != 2 {
			t.Errorf("page %d, which begins with %d", number, b[0])
		}
	}
}

func TestAllIsNotNil(t *testing.T) {
	if newMemory(t, 1).All() == nil || sparse(t).All() == nil {
		t.Error("All is nil")
	}
}

// TestAllSharesNothing: neither with the memory, nor with another list.
func TestAllSharesNothing(t *testing.T) {
	m := counting(t, 3)
	before := content(t, m)
	var lists [][]byte
	for range 2 {
		for _, b := range m.All() {
			if len(b) != pageSize {
				t.Errorf("a page of %d bytes", len(b))
			}
			lists = append(lists, b)
		}
	}
	for i, b := range lists {
		kept := make([][]byte, len(lists))
		for k := range lists {
			kept[k] = bytes.Clone(lists[k])
		}
		spoil(b)
		for k := range lists {
			if k != i && !bytes.Equal(lists[k], kept[k]) {
				t.Errorf("lists %d and %d share memory", i, k)
			}
		}
	}
	wantContent(t, "pages that were told are written over", m, before)
	kept := bytes.Clone(lists[0])
	m.Fill(0, 3*pageSize, 0)
	if !bytes.Equal(lists[0], kept) {
		t.Error("a page that was told is changed by a Fill")
	}
}

// TestAllMakesAnEqualOne: what All tells, written into a new memory.
func TestAllMakesAnEqualOne(t *testing.T) {
	for _, m := range []*memory.Memory{newMemory(t, 3), counting(t, 3), sparse(t)} {
		o := newMemory(t, m.Pages())
		for number, b := range m.All() {
			wantErrno(t, "Write", o.Write(number*pageSize, b), api.OK)
		}
		if !o.Equal(m) || !m.Equal(o) {
			t.Error("what All tells makes another memory")
		}
	}
}

func TestClone(t *testing.T) {
	for _, m := range []*memory.Memory{newMemory(t, 1), counting(t, 2), newMemory(t, 4096), sparse(t)} {
		c := m.Clone()
		if c == nil || c == m || c.Pages() != m.Pages() || !c.Equal(m) || !m.Equal(c) {
			t.Fatalf("a clone of %d pages is another memory", m.Pages())
		}
		wantNumbers(t, "a clone", numbers(c), numbers(m)...)
		end := uint32(m.Pages() * pageSize)
		wantErrno(t, "Store at a clone's end", c.Store(end-4, 4, 1), api.OK)
		wantErrno(t, "Store beyond it", c.Store(end, 4, 1), api.ErrMemoryOutside)
	}
}

// TestClonesApart: what is done to one changes nothing of the others, in
// pages that were written before, and in others.
func TestClonesApart(t *testing.T) {
	changes := []func(m *memory.Memory){
		func(m *memory.Memory) { m.Store(8, 1, 0) },
		func(m *memory.Memory) { m.Store(2*pageSize, 4, 77) },
		func(m *memory.Memory) { m.Write(pageSize-1, []byte{7, 8}, []byte{9}) },
		func(m *memory.Memory) { m.Fill(0, 3*pageSize, 9) },
		func(m *memory.Memory) { m.Copy(pageSize, 0, 100) },
	}
	for i, change := range changes {
		for changed := range 3 {
			m := newMemory(t, 3)
			m.Write(0, bytes.Repeat([]byte{1, 2, 3}, 1500))
			before := content(t, m)
			of := m.Clone()
			all := []*memory.Memory{m, of, of.Clone()}
			change(all[changed])
			for k, o := range all {
				if k != changed {
					wantContent(t, "another clone", o, before)
					if o.Equal(all[changed]) || all[changed].Equal(o) {
						t.Errorf("change %d of clone %d is not seen by Equal", i, changed)
					}
				}
			}
		}
	}
}

func TestEqual(t *testing.T) {
	m := sparse(t)
	if !m.Equal(m) {
		t.Error("a memory is not equal to itself")
	}
	if m.Equal(nil) || newMemory(t, 1).Equal(nil) {
		t.Error("a memory is equal to nil")
	}
	for _, at := range []uint32{0, 2*pageSize + 2048, 3 * pageSize, 5*pageSize - 1, 5 * pageSize, 6*pageSize - 1, 100 * pageSize, 4096*pageSize - 1} {
		o := m.Clone()
		v, _ := o.Load(at, 1)
		o.Store(at, 1, v^1)
		if m.Equal(o) || o.Equal(m) {
			t.Errorf("a byte at %d is not seen", at)
		}
		o.Store(at, 1, v)
		if !m.Equal(o) || !o.Equal(m) {
			t.Errorf("the byte at %d is as it was", at)
		}
	}
	a, b := newMemory(t, 2), newMemory(t, 2)
	a.Store(0, 1, 1)
	b.Store(pageSize, 1, 1)
	if a.Equal(b) || b.Equal(a) {
		t.Error("the same bytes in another page")
	}
}

func TestEqualOfOtherPages(t *testing.T) {
	for _, c := range [][2]int{{1, 2}, {2, 1}, {4095, 4096}, {1, 4096}} {
		a, b := newMemory(t, c[0]), newMemory(t, c[1])
		if a.Equal(b) {
			t.Errorf("%d pages are equal to %d", c[0], c[1])
		}
		a.Store(0, 1, 5)
		b.Store(0, 1, 5)
		if a.Equal(b) {
			t.Errorf("%d pages are equal to %d, with one byte", c[0], c[1])
		}
	}
}

// TestNoughtsAreNoughts: whether they were written is not seen.
func TestNoughtsAreNoughts(t *testing.T) {
	a, b := newMemory(t, 4), newMemory(t, 4)
	a.Fill(0, 4*pageSize, 0)
	a.Store(pageSize, 4, 5)
	a.Store(pageSize, 1, 0)
	if !a.Equal(b) || !b.Equal(a) || !a.Clone().Equal(b) {
		t.Error("noughts that were written are not those of a new memory")
	}
}

// TestAskingChangesNothing: Equal, Clone, All and the reading calls.
func TestAskingChangesNothing(t *testing.T) {
	m, o := counting(t, 2), newMemory(t, 2)
	before := content(t, m)
	m.Equal(o)
	o.Equal(m)
	m.Clone()
	numbers(m)
	m.Read(0, 8192)
	m.Load(0, 4)
	wantContent(t, "one that was asked", m, before)
	wantContent(t, "the other one", o, make([]byte, 2*pageSize))
}

// TestAskedAtOnce: asking writes nothing, so that several may ask one memory.
func TestAskedAtOnce(t *testing.T) {
	m := sparse(t)
	var group sync.WaitGroup
	for range 8 {
		group.Go(func() {
			if !m.Equal(m.Clone()) || !slices.Equal(numbers(m), sparseNumbers) {
				t.Error("asked at once it tells something else")
			}
		})
	}
	group.Wait()
}

// TestFunctionFromAddressesToBytes: whatever is written in whatever way, a
// memory is what a plain list of bytes would be.
func TestFunctionFromAddressesToBytes(t *testing.T) {
	for seed := range int64(40) {
		random := rand.New(rand.NewSource(seed))
		pages := 1 + random.Intn(5)
		m, model := newMemory(t, pages), make([]byte, pages*pageSize)
		for step := range 400 {
			if random.Intn(50) == 0 {
				m = m.Clone()
			}
			change(t, random, m, model)
			if step%20 == 0 {
				wantModel(t, m, model)
			}
		}
		wantContent(t, "in the end", m, model)
	}
}

// somePlace is often near an edge, and sometimes not inside.
func somePlace(random *rand.Rand, size int) (uint32, int) {
	at := random.Intn(size)
	switch random.Intn(4) {
	case 0:
		at = random.Intn(size/pageSize+1)*pageSize + random.Intn(9) - 4
	case 1:
		at = size - random.Intn(20)
	}
	n := []int{0, 1, 3, 30, 500, pageSize, pageSize + 1, 2*pageSize + 7}[random.Intn(8)]
	return uint32(max(at, 0)), n
}

func change(t *testing.T, random *rand.Rand, m *memory.Memory, model []byte) {
	t.Helper()
	at, n := somePlace(random, len(model))
	from, _ := somePlace(random, len(model))
	e := api.OK
	if int(at)+n > len(model) {
		e = api.ErrMemoryOutside
	}
	var got api.Errno
	switch random.Intn(4) {
	case 0:
		b := make([]byte, n)
		random.Read(b)
		cut := random.Intn(n + 1)
		got = m.Write(at, b[:cut], b[cut:])
		if e == api.OK {
			copy(model[at:], b)
		}
	case 1:
		b := byte(random.Intn(3))
		got = m.Fill(at, n, b)
		if e == api.OK {
			copy(model[at:], bytes.Repeat([]byte{b}, n))
		}
	case 2:
		if int(from)+n > len(model) {
			e = api.ErrMemoryOutside
		}
		got = m.Copy(at, from, n)
		if e == api.OK {
			copy(model[at:], bytes.Clone(model[from:][:n]))
		}
	case 3:
		got, e = changeWord(random, m, model, at)
	}
	wantErrno(t, "a change", got, e)
}

func changeWord(random *rand.Rand, m *memory.Memory, model []byte, at uint32) (api.Errno, api.Errno) {
	size, v := random.Intn(6), random.Uint32()
	got := m.Store(at, size, v)
	switch {
	case size != 1 && size != 2 && size != 4:
		return got, api.ErrMemoryArg
	case int(at)%size != 0:
		return got, api.ErrMemoryAlign
	case int(at)+size > len(model):
		return got, api.ErrMemoryOutside
	}
	for i := range size {
		model[int(at)+i] = byte(v >> (8 * i))
	}
	return got, api.OK
}

func wantModel(t *testing.T, m *memory.Memory, model []byte) {
	t.Helper()
	if b, e := m.Read(0, len(model)); e != api.OK || !bytes.Equal(b, model) {
		t.Fatalf("Read of all: error %d, or other bytes", e)
	}
	told := make([]byte, len(model))
	for number, b := range m.All() {
		if bytes.Equal(b, make([]byte, pageSize)) {
			t.Fatalf("All tells page %d, which is all 0", number)
		}
		copy(told[number*pageSize:], b)
	}
	if !bytes.Equal(told, model) {
		t.Fatal("All tells other bytes")
	}
	for at := 0; at+4 <= len(model); at += 4 {
		want := uint32(model[at]) | uint32(model[at+1])<<8 | uint32(model[at+2])<<16 | uint32(model[at+3])<<24
		if v, e := m.Load(uint32(at), 4); v != want || e != api.OK {
			t.Fatalf("Load(%d, 4) = %x, %d, want %x", at, v, e, want)
		}
	}
}
