package boot_test

import (
	"bytes"
	"math"
	"math/rand"
	"testing"

	"cloister/api"
	"cloister/boot"
)

// TestNoSuchCell: with Data or without.
func TestNoSuchCell(t *testing.T) {
	b := blobOf(t, good())
	for _, cell := range []int{0, -1, 4, 8, 9, 1 << 32, 1<<32 + 1, math.MaxInt, math.MinInt} {
		wantRefused(t, "no such cell", b, api.ErrBootArg, load(cell, 0x1000))
		wantRefused(t, "no such cell", b, api.ErrBootArg, load(cell, 0x1000, 1))
		wantRefused(t, "no such cell, behind others", b, api.ErrBootArg, load(1, 0x1000, 1), load(2, 0x1000, 1), load(cell, 0x1000))
		wantRefused(t, "no such cell, ahead of others", b, api.ErrBootArg, load(cell, 0x1000), load(1, 0x1000, 1))
	}
}

// TestNoData: nothing is asked of where it would go.
func TestNoData(t *testing.T) {
	plain := booted(t, good())
	for cell := 1; cell <= 3; cell++ {
		for _, at := range []uint32{0, 7, 0x1000, 0x3000, 0xfff, 1<<32 - 1} {
			for _, data := range [][]byte{nil, {}} {
				m := booted(t, good(), api.Load{Cell: cell, At: at, Data: data})
				if !m.Memory.Equal(plain.Memory) {
					t.Errorf("cell %d, at %#x: the memory is another one", cell, at)
				}
			}
		}
	}
}

// TestOutsideRanges: one byte is enough.
func TestOutsideRanges(t *testing.T) {
	b, two := blobOf(t, good()), make([]byte, 2*page)
	for _, l := range []api.Load{
		load(1, 0xfff, 1), load(1, 0xfff, 1, 2), // ahead of a range
		load(1, 0x3000, 1), load(1, 0x2fff, 1, 2), // behind
		{Cell: 1, At: 0x1001, Data: two}, {Cell: 1, At: 0xfff, Data: two}, {Cell: 1, At: 0x1000, Data: append(two, 1)},
		load(1, 0x402000, 1), load(1, 0x401fff, 1, 2), load(1, 0x3fdfff, 1, 2),
		{Cell: 1, At: 0x1000, Data: make([]byte, 0x3ff000)},              // from one range into another, and what is between
		load(1, 0xfffff000, 1), load(2, 0x3ff000, 1), load(3, 0x1000, 1), // another cell's
		load(2, 0xffffffff, 1, 2), load(2, 0xfffffffd, 1, 2, 3, 4), // behind the last address
		load(1, 0xffffffff, 1), load(1, 0xffffffff, 1, 2),
		load(1, 5*page, 1), load(2, 40*page, 1), // a physical address is none of a cell
		{Cell: 3, At: 0x7fffe000, Data: make([]byte, 6*page+1)},
	} {
		wantRefused(t, "outside", b, api.ErrBootArg, l)
		wantRefused(t, "outside, ahead of others", b, api.ErrBootArg, l, load(2, 0x1000, 1))
		wantRefused(t, "outside, between others", b, api.ErrBootArg, load(2, 0x1000, 1), l, load(2, 0x1000, 1))
	}
}

// TestBehindTheLastAddress: a place that would wrap round to a range of the
// cell is behind all of them.
func TestBehindTheLastAddress(t *testing.T) {
	g := crowd(1)
	g.Cells[0].Ranges = []api.Range{{Virtual: 0xfffff000, Physical: 3 * page, Pages: 1, Perm: rx}, {Virtual: 0, Physical: 4 * page, Pages: 1, Perm: rw}}
	g.Cells[0].Entry, g.Pages, g.OwnPages = 0xfffff000, 5, 3
	wantBytes(t, booted(t, g, load(1, 0xfffffffe, 1, 2)), 4*page-2, 1, 2, 0)
	wantRefused(t, "a byte more", blobOf(t, g), api.ErrBootArg, load(1, 0xfffffffe, 1, 2, 3))
	wantRefused(t, "all of both", blobOf(t, g), api.ErrBootArg, api.Load{Cell: 1, At: 0xfffff000, Data: make([]byte, 2*page)})
}

// TestWhereBytesGo: at the edges of ranges, whatever the Perm.
func TestWhereBytesGo(t *testing.T) {
	m := booted(t, good(),
		load(1, 0x1000, 1), load(1, 0x2fff, 2), // read and execute
		load(1, 0x3fe000, 3), load(1, 0x401fff, 4), // read alone
		load(2, 0xffffffff, 5), load(2, 0xfffff000, 6), // execute alone
		load(2, 0x1000, 7), load(3, 0x80003fff, 8), load(3, 0x7fffe001, 9))
	for at, want := range map[uint32]byte{0: 1, 0x1fff: 2, 30 * page: 3, 43*page - 1: 4, 3*page - 1: 5, 2 * page: 6, 3 * page: 7, 25*page - 1: 8, 45*page + 1: 9} {
		wantBytes(t, m, at, want)
	}
}

// TestSeveralRanges: bytes that lie in some that follow upon one another in
// the cell's addresses, but neither in the list nor in memory.
func TestSeveralRanges(t *testing.T) {
	data := make([]byte, 6*page)
	rand.New(rand.NewSource(193)).Read(data)
	m := booted(t, good(), api.Load{Cell: 3, At: 0x7fffe000, Data: data})
	wantBytes(t, m, 45*page, data[:2*page]...)
	wantBytes(t, m, 21*page, data[2*page:]...)
	m = booted(t, good(), api.Load{Cell: 1, At: 0x3fefff, Data: data[:page+2]})
	wantBytes(t, m, 31*page-1, data[0], 0)
	wantBytes(t, m, 40*page, data[1:page+2]...)
	wantBytes(t, m, 41*page+1, 0)
}

// TestInOrder: what comes later stays, byte by byte.
func TestInOrder(t *testing.T) {
	m := booted(t, good(), load(2, 0x1000, 1, 2, 3, 4, 5, 6), load(2, 0x1002, 0, 9), load(2, 0x1003, 8, 7), load(2, 0x1000))
	wantBytes(t, m, 3*page, 1, 2, 0, 8, 7, 6, 0)
	m = booted(t, good(), load(2, 0x1003, 8, 7), load(2, 0x1002, 0, 9), load(2, 0x1000, 1, 2, 3, 4, 5, 6))
	wantBytes(t, m, 3*page, 1, 2, 3, 4, 5, 6, 0)
	many := make([]api.Load, 5000)
	for i := range many {
		many[i] = load(1+i%2, 0x1000+uint32(i%7), byte(i), byte(i>>8))
	}
	m = booted(t, good(), many...)
	want := make([]byte, 10)
	for i := range many {
		if i%2 == 1 {
			copy(want[i%7:], many[i].Data)
		}
	}
	wantBytes(t, m, 3*page, want...)
}

// TestNobodyKnowsOfLoads: neither TLB nor cache: the first accesses are walks
// and misses, and no line is to be written back.
func TestNobodyKnowsOfLoads(t *testing.T) {
	for cell, at := range map[int]uint32{1: 0x1000, 2: 0x1000, 3: 0x80000000} {
		data := make([]byte, page)
		data[3] = 1
		m := booted(t, good(), api.Load{Cell: cell, At: at, Data: data})
		if v, n, f := m.MMU.Fetch(cell, at); v != 1<<24 || n != 36 || f != api.FaultNone {
			t.Errorf("cell %d: %#x, %d cycles, fault %d", cell, v, n, f)
		}
		m = booted(t, good(), api.Load{Cell: cell, At: at, Data: data})
		if n := m.MMU.Flush(); n != 4 {
			t.Errorf("cell %d: flushed in %d cycles", cell, n)
		}
	}
}

// modelLoads lays bytes down one by one; false: one of them may not be.
func modelLoads(g api.Config, flat []byte, l []api.Load) bool {
	for _, x := range l {
		if x.Cell < 1 || x.Cell > len(g.Cells) {
			return false
		}
		for i, b := range x.Data {
			to, there := modelPlace(g.Cells[x.Cell-1], int64(x.At)+int64(i))
			if !there {
				return false
			}
			flat[to] = b
		}
	}
	return true
}

// modelPlace is where a cell's address is, page by page.
func modelPlace(c api.Cell, at int64) (int64, bool) {
	for _, r := range c.Ranges {
		for i := range int64(r.Pages) {
			if at/page == int64(r.Virtual)/page+i {
				return int64(r.Physical) + i*page + at%page, true
			}
		}
	}
	return 0, false
}

// anyLoad is one that lies in some pages of a cell, or nearly.
func anyLoad(random *rand.Rand, g api.Config) api.Load {
	k := random.Intn(len(g.Cells))
	r := pick(random, g.Cells[k].Ranges)
	x := api.Load{Cell: k + 1, At: r.Virtual + uint32(random.Intn(r.Pages*page)), Data: make([]byte, random.Intn(40))}
	switch random.Intn(12) {
	case 0:
		x.At = r.Virtual + uint32(r.Pages*page) - uint32(random.Intn(40))
	case 1:
		x.At, x.Data = r.Virtual, make([]byte, r.Pages*page)
	case 2:
		x.Data = make([]byte, random.Intn(3*page))
	case 3:
		x.At = r.Virtual - 1
	case 4:
		x.Cell, x.Data = random.Intn(10), x.Data[:random.Intn(2)*len(x.Data)]
	}
	random.Read(x.Data)
	return x
}

// TestLoadsAsTheModel: which may be, and what is in memory then.
func TestLoadsAsTheModel(t *testing.T) {
	random := rand.New(rand.NewSource(194))
	laid, refused := 0, 0
	for i := range 600 {
		g := good()
		if i%3 > 0 {
			g = anyValid(random)
		}
		var l []api.Load
		for range random.Intn(5) {
			l = append(l, anyLoad(random, g))
		}
		flat, _ := modelTables(g)
		want := modelLoads(g, flat, l)
		m, e := boot.Boot(blobOf(t, g), l...)
		switch {
		case !want && (m != nil || e != api.ErrBootArg), want && (m == nil || e != api.OK):
			t.Fatalf("Boot = %v, %d", m, e)
		case want:
			wantFlat(t, m, flat)
			laid += len(l)
		default:
			refused++
		}
	}
	if laid < 200 || refused < 100 {
		t.Errorf("%d were laid down, %d machines refused: the test asks too little", laid, refused)
	}
}

// TestLongData: the time that a Load takes does not hang on bytes that have no
// place.
func TestLongData(t *testing.T) {
	l := api.Load{Cell: 1, At: 0x1000, Data: make([]byte, 1<<28)}
	wantRefused(t, "long", blobOf(t, good()), api.ErrBootArg, l)
	if !bytes.Equal(l.Data[:16], make([]byte, 16)) {
		t.Error("it was changed")
	}
}
