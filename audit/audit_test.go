package audit_test

import (
	"maps"
	"math"
	"testing"

	"cloister/api"
	"cloister/audit"
	"cloister/valid"
)

const (
	page    = api.PageSize
	maxTick = api.MaxTick
	ever    = math.MaxUint64 // a tick to which no machine runs
	most    = math.MaxUint32
)

// Numbers of hypercalls, as the chapter has them.
const (
	send    = 3
	receive = 4
	halt    = 11
)

func obs(tick uint64, cell int, kind api.ObsKind, a, b uint32) api.Obs {
	return api.Obs{Tick: tick, Cell: cell, Kind: kind, PC: uint32(tick) * 4, A: a, B: b}
}

// seen is an observation of which nothing but the tick and the cell may be wrong.
func seen(tick uint64, cell int) api.Obs { return obs(tick, cell, api.ObsLoad, most, most) }

func sent(tick uint64, cell int) api.Obs { return obs(tick, cell, api.ObsCall, send, 0) }

func received(tick uint64, cell int, length uint32) api.Obs {
	return obs(tick, cell, api.ObsCall, receive, length)
}

func wantCheck(t testing.TB, g api.Config, to uint64, e api.Errno, place int, l ...api.Obs) {
	t.Helper()
	if got, at := audit.Check(g, to, l...); got != e || at != place {
		t.Errorf("Check to %d of %v (%d in all) = %d, %d, want %d, %d", to, l[max(0, len(l)-5):], len(l), got, at, e, place)
	}
}

func wantCount(t testing.TB, g api.Config, want map[int]map[api.ObsKind]int, l ...api.Obs) {
	t.Helper()
	got, e := audit.Count(g, l...)
	if e != api.OK || !maps.EqualFunc(got, want, maps.Equal[map[api.ObsKind]int]) {
		t.Errorf("Count of %v = %v, %d, want %v", l, got, e, want)
	}
}

func wantNoCount(t testing.TB, g api.Config, e api.Errno, l ...api.Obs) {
	t.Helper()
	if got, wrong := audit.Count(g, l...); got != nil || wrong != e {
		t.Errorf("Count of %v = %v, %d, want nil, %d", l, got, wrong, e)
	}
}

// cells is so many, with a page each; cell c has the line c, and no others.
func cells(n int) []api.Cell {
	var l []api.Cell
	for i := range n {
		l = append(l, api.Cell{Name: string(rune('a' + i)), Lines: []int{i + 1}, Ranges: []api.Range{
			{Physical: uint32(32+i) * page, Pages: 1, Perm: api.Read | api.Exec},
		}})
	}
	return l
}

// machine has so many cells, and neither windows nor ports.
func machine(n int) api.Config {
	return api.Config{Pages: 64, OwnPages: 32, Shape: api.Shape{Sets: 4, Ways: 2, Line: 32}, Slots: 4, Cells: cells(n)}
}

// pair is two cells without ports: a step of each takes 121 ticks at most, a
// window's end 116. The first one's last step in a major frame begins at 4763.
func pair() api.Config {
	g := machine(2)
	g.Major = 10000
	g.Windows = []api.Window{{Cell: 1, Start: 0, Length: 5000}, {Cell: 2, Start: 5000, Length: 5000}}
	return g
}

// four has four cells, of which the third one writes a queue alone, and the
// fourth one has no ports; windows one behind the other, and apart.
func four() api.Config {
	g := machine(4)
	g.Cells[0].Lines, g.Cells[2].Lines = []int{31, 3, 0}, nil
	g.Major = 60000
	g.Windows = []api.Window{
		{Cell: 1, Start: 100, Length: 10000}, {Cell: 2, Start: 10100, Length: 10000}, {Cell: 1, Start: 21000, Length: 5000},
		{Cell: 3, Start: 26000, Length: 2000}, {Cell: 4, Start: 28000, Length: 237}, {Cell: 4, Start: 28237, Length: 1000},
		{Cell: 2, Start: 40000, Length: 20000},
	}
	g.Samples = []api.Sample{{Writer: 1, Size: 32, Readers: []int{2, 3}}}
	g.Queues = []api.Queue{
		{Writer: 1, Reader: 2, Size: 8, Depth: 4, Quota: 2},
		{Writer: 3, Reader: 2, Size: 64, Depth: 2, Quota: 1, Flow: true},
		{Writer: 1, Reader: 2, Size: 16, Depth: 1, Quota: 1},
		{Writer: 2, Reader: 1, Size: 256, Depth: 1, Quota: 1},
	}
	return g
}

// TestOfTests: the configurations of these tests may be.
func TestOfTests(t *testing.T) {
	for _, g := range []api.Config{pair(), four()} {
		if e, where := valid.Check(g); e != api.OK {
			t.Fatalf("valid.Check = %d, %d", e, where)
		}
	}
}

// TestExamples: those of the chapter.
func TestExamples(t *testing.T) {
	g := pair()
	wantCheck(t, g, 0, api.OK, 0)
	wantCheck(t, g, ever, api.OK, 0)
	wantCheck(t, g, 10000, api.ErrAuditWindow, 0, seen(5000, 1))
	wantCheck(t, g, 10000, api.ErrAuditOrder, 1, seen(7, 1), seen(7, 1))
	wantCheck(t, g, 10000, api.ErrAuditCell, 1, obs(7, 1, api.ObsHalt, 0, 0), seen(60, 1))
	wantCheck(t, four(), 60000, api.ErrAuditPort, 0, received(10100, 2, 8))
}

// TestOrder: each tick is above the one ahead, of whichever cell that was.
func TestOrder(t *testing.T) {
	g := pair()
	for _, x := range []struct{ first, second uint64 }{{1, 0}, {1, 1}, {4000, 3999}, {5000, 4763}, {5000, 5000}, {13000, 3000}, {13000, 13000}, {13000, 0}} {
		wantCheck(t, g, ever, api.ErrAuditOrder, 1, seen(x.first, 1+int(x.first/5000%2)), seen(x.second, 1+int(x.second/5000%2)))
	}
	for _, x := range []struct{ first, second uint64 }{{0, 1}, {0, 4763}, {1, 2}, {4763, 5000}, {5000, 10000}, {3, 1e18}} {
		wantCheck(t, g, ever, api.OK, 0, seen(x.first, 1+int(x.first/5000%2)), seen(x.second, 1+int(x.second/5000%2)))
	}
	wantCheck(t, g, ever, api.ErrAuditOrder, 3, seen(1, 1), seen(2, 1), seen(10, 1), seen(5, 1), seen(6, 1))
	wantCheck(t, g, ever, api.OK, 0, seen(0, 1)) // nothing is ahead of the first one
}

// TestOrderIsAskedFirst: whatever else is wrong.
func TestOrderIsAskedFirst(t *testing.T) {
	for _, o := range []api.Obs{seen(10, 9), obs(10, 1, 0, 0, 0), seen(10, 2), seen(4999, 1), obs(10, 1, api.ObsIrq, 2, 0), received(10, 1, 4), obs(0, 1, api.ObsClock, 5, 5)} {
		first := seen(10, 1)
		if o.Tick > 10 {
			first = seen(5000, 2)
		}
		wantCheck(t, pair(), 5001, api.ErrAuditOrder, 1, first, o)
		wantCheck(t, pair(), 10001, api.ErrAuditOrder, 2, first, seen(10000, 1), o)
	}
}

// TestOrderIsAskedAheadOfHalted: a cell that has halted is told where the order
// is right.
func TestOrderIsAskedAheadOfHalted(t *testing.T) {
	ends := obs(10, 1, api.ObsHalt, 0, 0)
	wantCheck(t, pair(), ever, api.ErrAuditOrder, 1, ends, seen(10, 1))
	wantCheck(t, pair(), ever, api.ErrAuditCell, 1, ends, seen(11, 1))
}

// TestPlace: the first one that is wrong is told, whatever is wrong behind it.
func TestPlace(t *testing.T) {
	wrong := []struct {
		o api.Obs
		e api.Errno
	}{
		{seen(300, 1), api.ErrAuditOrder}, {seen(500, 5), api.ErrAuditCell}, {seen(500, 2), api.ErrAuditWindow},
		{obs(500, 1, api.ObsIrq, 1, 0), api.ErrAuditLine}, {received(500, 1, 0), api.ErrAuditPort},
	}
	right := []api.Obs{seen(100, 1), seen(200, 1), seen(350, 1), seen(400, 1)}
	for _, x := range wrong {
		for _, y := range wrong {
			wantCheck(t, four(), ever, x.e, 4, append(right[:4:4], x.o, y.o, seen(600, 1), y.o)...)
		}
	}
	wantCheck(t, four(), ever, api.OK, 0, right...)
}

// TestPCIsAny: no place of an instruction is wrong.
func TestPCIsAny(t *testing.T) {
	for _, pc := range []uint32{0, 1, 2, 3, 0x80000000, most} {
		wantCheck(t, pair(), ever, api.OK, 0, api.Obs{Tick: 5, Cell: 1, Kind: api.ObsSay, PC: pc, A: 6})
	}
}
