package mmu_test

import (
	"math/rand"
	"slices"
	"testing"

	"cloister/api"
)

// model is a machine in the chapter's plain words: bytes, slots and lines as
// lists, what was used last first; a root that is below 0 is none.
type model struct {
	b     []byte
	shape api.Shape
	sets  [][]api.Line
	room  int
	slots []api.Slot
	roots [api.MaxCells + 1]int64
}

func newModel(pages int, s api.Shape, slots int) *model {
	x := &model{b: make([]byte, pages*pageSize), shape: s, sets: make([][]api.Line, s.Sets), room: slots}
	for i := range x.roots {
		x.roots[i] = -1
	}
	return x
}

func (x *model) word(at uint64) (uint32, bool) {
	if at%4 != 0 || at+4 > uint64(len(x.b)) {
		return 0, false
	}
	return x.number(uint32(at), 4), true
}

func (x *model) number(at uint32, size int) uint32 {
	v := uint32(0)
	for i := range uint32(size) {
		v |= uint32(x.b[at+i]) << (8 * i)
	}
	return v
}

func (x *model) lay(at uint32, size int, v uint32) {
	for i := range uint32(size) {
		x.b[at+i] = byte(v >> (8 * i))
	}
}

func (x *model) use(at uint32, write bool) int {
	number := at / uint32(x.shape.Line)
	set, tag := number%uint32(x.shape.Sets), number/uint32(x.shape.Sets)
	l := x.sets[set]
	i := slices.IndexFunc(l, func(o api.Line) bool { return o.Tag == tag })
	used, cycles := api.Line{Set: set, Tag: tag}, 12
	switch {
	case i >= 0:
		used, cycles = l[i], 1
		l = slices.Delete(l, i, i+1)
	case len(l) == x.shape.Ways:
		if l[len(l)-1].Dirty {
			cycles = 20
		}
		l = l[:len(l)-1]
	}
	used.Dirty = used.Dirty || write
	x.sets[set] = slices.Insert(l, 0, used)
	return cycles
}

func (x *model) look(tag api.Tag) (api.Mapping, bool) {
	i := slices.IndexFunc(x.slots, func(o api.Slot) bool { return o.Tag == tag })
	if i < 0 {
		return api.Mapping{}, false
	}
	s := x.slots[i]
	x.slots = slices.Insert(slices.Delete(x.slots, i, i+1), 0, s)
	return s.Mapping, true
}

func (x *model) put(s api.Slot) {
	x.slots = slices.DeleteFunc(x.slots, func(o api.Slot) bool { return o.Tag == s.Tag })
	if len(x.slots) == x.room {
		x.slots = x.slots[:x.room-1]
	}
	x.slots = slices.Insert(x.slots, 0, s)
}

// kind of a word: 0 none, 1 page, 2 table, 3 malformed.
func kind(w uint32) int {
	switch {
	case w == 0:
		return 0
	case w>>12 > 4095:
		return 3
	case w&0xfff == 0x11:
		return 2
	case slices.Contains([]uint32{3, 7, 9, 11, 15}, w&0xfff):
		return 1
	}
	return 3
}

func (x *model) translate(cell int, at uint32, a api.Access) (uint32, int, api.Fault) {
	if cell < 1 || cell > api.MaxCells || x.roots[cell] < 0 {
		return 0, 0, api.FaultUnmapped
	}
	tag := api.Tag{Cell: cell, Page: at >> 12}
	found, there := x.look(tag)
	cycles := 0
	if !there {
		var f api.Fault
		if found, cycles, f = x.walk(uint64(x.roots[cell]), at); f != api.FaultNone {
			return 0, cycles, f
		}
	}
	switch {
	case !lets(found.Perm, a):
		return 0, cycles, api.FaultDenied
	case uint64(found.Frame) >= uint64(len(x.b)/pageSize):
		return 0, cycles, api.FaultOutside
	}
	if !there {
		x.put(api.Slot{Tag: tag, Mapping: found})
	}
	return found.Frame<<12 | at&0xfff, cycles, api.FaultNone
}

// walk is which page is found, wherever that is and whatever may be done there.
func (x *model) walk(root uint64, at uint32) (api.Mapping, int, api.Fault) {
	where, cycles := root+4*uint64(at>>22), 0
	for level := 2; ; level-- {
		w, ok := x.word(where)
		if !ok {
			return api.Mapping{}, cycles, api.FaultOutside
		}
		cycles += x.use(uint32(where), false)
		switch {
		case w == 0:
			return api.Mapping{}, cycles, api.FaultUnmapped
		case kind(w) != level:
			return api.Mapping{}, cycles, api.FaultMalformed
		case level == 1:
			return api.Mapping{Frame: w >> 12, Perm: api.Perm(w >> 1 & 7)}, cycles, api.FaultNone
		}
		where = uint64(w>>12)<<12 + 4*uint64(at>>12&1023)
	}
}

func (x *model) load(cell int, at uint32, size int, a api.Access) (uint32, int, api.Fault) {
	if size != 1 && size != 2 && size != 4 || int(at)%size != 0 {
		return 0, 0, api.FaultAlign
	}
	to, n, f := x.translate(cell, at, a)
	if f != api.FaultNone {
		return 0, n, f
	}
	return x.number(to, size), n + x.use(to, false), f
}

func (x *model) store(cell int, at uint32, size int, v uint32) (int, api.Fault) {
	if size != 1 && size != 2 && size != 4 || int(at)%size != 0 {
		return 0, api.FaultAlign
	}
	to, n, f := x.translate(cell, at, api.AccessWrite)
	if f != api.FaultNone {
		return n, f
	}
	x.lay(to, size, v)
	return n + x.use(to, true), f
}

func (x *model) read(cell int, at uint32, size int) ([]byte, int, api.Fault) {
	if size < 0 || size > 256 || size%4 != 0 || at%4 != 0 {
		return nil, 0, api.FaultAlign
	}
	var b []byte
	all := 0
	for i := range size / 4 {
		v, n, f := x.load(cell, at+4*uint32(i), 4, api.AccessRead)
		all += n
		if f != api.FaultNone {
			return nil, all, f
		}
		for k := range 4 {
			b = append(b, byte(v>>(8*k)))
		}
	}
	return b, all, api.FaultNone
}

func (x *model) write(cell int, at uint32, b []byte) (int, api.Fault) {
	if len(b) > 256 || len(b)%4 != 0 || at%4 != 0 {
		return 0, api.FaultAlign
	}
	var places []uint32
	all := 0
	for i := range len(b) / 4 {
		to, n, f := x.translate(cell, at+4*uint32(i), api.AccessWrite)
		all += n
		if f != api.FaultNone {
			return all, f
		}
		places = append(places, to)
	}
	for i, to := range places {
		all += x.use(to, true)
		copy(x.b[to:], b[4*i:4*i+4])
	}
	return all, api.FaultNone
}

func (x *model) flush() int {
	n := x.shape.Sets
	for i, l := range x.sets {
		for _, o := range l {
			if o.Dirty {
				n += 8
			}
		}
		x.sets[i] = nil
	}
	x.slots = nil
	return n
}

// wantModel: memory, cache and TLB are the model's.
func wantModel(t *testing.T, x machine, y *model) {
	t.Helper()
	b, e := x.m.Read(0, len(y.b))
	if e != api.OK || !slices.Equal(b, y.b) {
		t.Errorf("the memory is another one")
	}
	wantLines(t, "the model", x, slices.Concat(y.sets...)...)
	wantSlots(t, "the model", x, y.slots...)
}

func pick[T any](random *rand.Rand, l ...T) T { return l[random.Intn(len(l))] }

// someWord is one of a table, mostly such that walks go on.
func someWord(random *rand.Rand, pages int) uint32 {
	frame := uint32(random.Intn(pages))
	switch random.Intn(20) {
	case 0:
		return pick(random, malformed...)
	case 1:
		return random.Uint32()
	case 2:
		frame = uint32(pages + random.Intn(3))
	case 3:
		return 0
	}
	if random.Intn(2) == 0 {
		return tableWord(frame)
	}
	return pageWord(pick[api.Perm](random, 1, 3, 3, 4, 5, 7), frame)
}

// someAt is an address whose indexes are few, so that they come again.
func someAt(random *rand.Rand) uint32 {
	first, second := pick[uint32](random, 0, 1, 1023), pick[uint32](random, 0, 1, 2, 1023)
	offset := pick(random, uint32(random.Intn(8)), uint32(random.Intn(pageSize)), pageSize-4, pageSize-uint32(random.Intn(128)))
	if random.Intn(4) != 0 {
		offset &^= 3
	}
	return first<<22 | second<<12 | offset&0xfff
}

// run does one thing, at random, with the machine and with the model.
func run(t *testing.T, random *rand.Rand, x machine, y *model) {
	t.Helper()
	pages := len(y.b) / pageSize
	cell, at := pick(random, 1, 1, 1, 2, 2, 3, 8, 0, 9), someAt(random)
	size := pick(random, 1, 2, 4, 4, 4, 3, 0, -1)
	switch random.Intn(16) {
	case 0, 1:
		a := pick[api.Access](random, 1, 2, 3, 0, 4)
		to, n, f := y.translate(cell, at, a)
		wantTranslate(t, x.u, cell, at, a, to, n, f)
	case 2, 3:
		v, n, f := y.load(cell, at, 4, api.AccessExec)
		wantFetch(t, x.u, cell, at, v, n, f)
	case 4, 5, 6:
		v, n, f := y.load(cell, at, size, api.AccessRead)
		wantLoad(t, x.u, cell, at, size, v, n, f)
	case 7, 8:
		v := pick(random, random.Uint32(), someWord(random, pages))
		n, f := y.store(cell, at, size, v)
		wantStore(t, x.u, cell, at, size, v, n, f)
	case 9, 10:
		size := pick(random, 0, 4, 8, 8, 32, 64, 128, 256, 260, 7)
		b, n, f := y.read(cell, at, size)
		wantRead(t, x.u, cell, at, size, b, n, f)
	case 11, 12:
		b := make([]byte, pick(random, 0, 4, 8, 8, 32, 64, 128, 256, 260, 7))
		random.Read(b)
		n, f := y.write(cell, at, b)
		wantWrite(t, x.u, cell, at, b, n, f)
	case 13:
		s := slot(pick(random, 0, 1, 2, 9), at>>12, uint32(random.Intn(pages+2)), api.Perm(random.Intn(8)))
		y.put(s)
		x.put(s)
	case 14:
		if random.Intn(4) == 0 {
			wantFlush(t, x.u, y.flush())
		}
	case 15:
		runRoot(t, random, x, y, cell)
	}
}

func runRoot(t *testing.T, random *rand.Rand, x machine, y *model, cell int) {
	t.Helper()
	table := pick(random, uint32(random.Intn(len(y.b)/pageSize+1))*pageSize, 1<<31, 0, 4, 4094)
	e := api.ErrMMUArg
	if cell >= 1 && cell <= api.MaxCells && table%pageSize == 0 {
		e = api.OK
		y.roots[cell] = int64(table)
		y.slots = slices.DeleteFunc(y.slots, func(o api.Slot) bool { return o.Tag.Cell == cell })
	}
	wantRoot(t, x.u, cell, table, e)
}

// TestWhateverIsThere: tables at random, into which cells and others write,
// mappings that others put: all is as the model has it.
func TestWhateverIsThere(t *testing.T) {
	random := rand.New(rand.NewSource(8))
	for range 150 {
		pages := 1 + random.Intn(6)
		s := api.Shape{Sets: pick(random, 1, 2, 4, 16, 256), Ways: 1 + random.Intn(8), Line: pick(random, 16, 32, 256)}
		slots := pick(random, 1, 2, 3, 8, 64)
		x, y := newMachine(t, pages, s, slots), newModel(pages, s, slots)
		for page := range uint32(pages) {
			for _, i := range []uint32{0, 1, 2, 1023} {
				w := someWord(random, pages)
				setWord(t, x.m, page*pageSize+4*i, w)
				y.lay(page*pageSize+4*i, 4, w)
			}
		}
		for cell := 1; cell <= 3; cell++ {
			runRoot(t, random, x, y, cell)
		}
		for i := range 200 {
			run(t, random, x, y)
			if i%10 == 9 {
				wantModel(t, x, y)
			}
			if t.Failed() {
				t.Fatalf("pages %d, shape %v, slots %d, step %d", pages, s, slots, i)
			}
		}
	}
}
