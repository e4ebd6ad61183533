package audit_test

import (
	"math"
	"testing"

	"cloister/api"
)

// TestCells: an observation's cell is one of the configuration's.
func TestCells(t *testing.T) {
	for _, cell := range []int{0, -1, 3, 4, 8, 9, 255, 256, 257, math.MaxInt, math.MinInt, 1 << 32, 1<<32 + 1, -1 << 32} {
		wantCheck(t, pair(), ever, api.ErrAuditCell, 0, seen(10, cell))
		wantCheck(t, pair(), ever, api.ErrAuditCell, 1, seen(10, 1), seen(11, cell))
	}
	wantCheck(t, pair(), ever, api.OK, 0, seen(10, 1), seen(5000, 2))
	g := machine(8)
	for i := range 8 {
		g.Windows = append(g.Windows, api.Window{Cell: i + 1, Start: uint64(i) * 1000, Length: 1000})
	}
	g.Major = 8000
	for cell := 1; cell <= 8; cell++ {
		wantCheck(t, g, ever, api.OK, 0, seen(uint64(cell-1)*1000, cell))
	}
	wantCheck(t, g, ever, api.ErrAuditCell, 0, seen(7000, 9))
}

// ends is what a cell observes last.
func ends(tick uint64, cell int) []api.Obs {
	l := []api.Obs{obs(tick, cell, api.ObsHalt, 0, 0), obs(tick, cell, api.ObsCall, halt, 0), obs(tick, cell, api.ObsCall, halt, 7), obs(tick, cell, api.ObsCall, halt, most)}
	for fault := api.FaultAlign; fault <= api.FaultIllegal; fault++ {
		l = append(l, obs(tick, cell, api.ObsFault, uint32(fault), most))
	}
	return l
}

// TestHalted: a cell that has halted observes nothing any more, in no window;
// others do.
func TestHalted(t *testing.T) {
	for _, last := range ends(10, 1) {
		wantCheck(t, pair(), ever, api.OK, 0, last)
		wantCheck(t, pair(), ever, api.OK, 0, seen(9, 1), last, seen(5000, 2), seen(5001, 2), seen(15000, 2))
		wantCheck(t, pair(), ever, api.ErrAuditCell, 1, last, seen(50, 1))
		wantCheck(t, pair(), ever, api.ErrAuditCell, 1, last, obs(11, 1, api.ObsHalt, 0, 0))
		wantCheck(t, pair(), ever, api.ErrAuditCell, 2, last, seen(5000, 2), seen(10000, 1))
		wantCheck(t, pair(), ever, api.ErrAuditCell, 1, last, seen(1e15, 1))
		wantCheck(t, pair(), ever, api.ErrAuditCell, 1, last, seen(5000, 1)) // not in its window either
		wantCheck(t, pair(), ever, api.OK, 0, last, obs(5000, 2, api.ObsHalt, 0, 0))
		wantCheck(t, pair(), ever, api.ErrAuditCell, 2, last, obs(5000, 2, api.ObsHalt, 0, 0), seen(5001, 2))
	}
}

// TestNotHalted: whatever else was observed ahead, a cell goes on.
func TestNotHalted(t *testing.T) {
	l := []api.Obs{obs(10, 1, api.ObsLoad, halt, 0), obs(10, 1, api.ObsLoad, most, halt), obs(10, 1, api.ObsIrq, 1, 0), obs(10, 1, api.ObsClock, 10, 0), obs(10, 1, api.ObsSay, halt, 0), obs(10, 1, api.ObsSay, 0, 0)}
	for number := range uint32(20) {
		if number != halt && number != receive {
			l = append(l, obs(10, 1, api.ObsCall, number, 0), obs(10, 1, api.ObsCall, number, halt), obs(10, 1, api.ObsCall, number, most))
		}
	}
	for _, o := range append(l, obs(10, 1, api.ObsCall, most, 0), obs(10, 1, api.ObsCall, 1<<31+halt, 0), obs(10, 1, api.ObsCall, receive, most)) {
		wantCheck(t, pair(), ever, api.OK, 0, o, seen(11, 1), seen(10000, 1))
	}
}

// TestKinds: those that there are, and no others.
func TestKinds(t *testing.T) {
	for _, kind := range []api.ObsKind{0, -1, 8, 9, 255, 256, 257, 1 << 32, 1<<32 + 1, math.MaxInt, math.MinInt} {
		wantCheck(t, pair(), ever, api.ErrAuditCell, 0, obs(0, 1, kind, 0, 0))
		wantCheck(t, pair(), ever, api.ErrAuditCell, 1, seen(0, 1), obs(5000, 2, kind, 1, 0))
	}
	for kind := api.ObsLoad; kind <= api.ObsSay; kind++ {
		a := uint32(1) // a fault, a line, the tick
		if kind == api.ObsHalt {
			a = 0
		}
		wantCheck(t, pair(), ever, api.OK, 0, obs(1, 1, kind, a, 0))
	}
}

// TestNumbersOfKinds: A and B are what each kind has.
func TestNumbersOfKinds(t *testing.T) {
	numbers := []uint32{0, 1, 2, 5, 6, 7, 8, 31, 32, 255, 256, 257, 1 << 16, 1<<31 - 1, 1 << 31, 1<<31 + 1, most - 1, most}
	for _, a := range numbers {
		for _, b := range numbers {
			may := map[api.ObsKind]bool{
				api.ObsLoad:  true,
				api.ObsCall:  true,
				api.ObsFault: a >= 1 && a <= 6,
				api.ObsIrq:   b == 0,
				api.ObsClock: false,
				api.ObsHalt:  a == 0 && b == 0,
				api.ObsSay:   b == 0,
			}
			for kind, right := range may {
				e := api.OK
				switch {
				case !right:
					e = api.ErrAuditCell
				case kind == api.ObsIrq && a != 1:
					e = api.ErrAuditLine
				}
				wantCheck(t, pair(), ever, e, 0, obs(4, 1, kind, a, b))
			}
		}
	}
}

// TestClock: it tells the tick of its step.
func TestClock(t *testing.T) {
	ticks := []uint64{0, 1, 4763, 10000, 20001, 1<<32 - 7296, 1<<32 + 2704, 5e17, 9223372036854770000, 9223372036854770001}
	for _, tick := range ticks {
		for _, told := range append(ticks, tick-1, tick+1, tick+1<<32, tick-1<<32, tick^1<<31, tick^1<<63, tick<<32|tick>>32, ever) {
			e := api.OK
			if told != tick {
				e = api.ErrAuditCell
			}
			wantCheck(t, pair(), ever, e, 0, obs(tick, 1, api.ObsClock, uint32(told), uint32(told>>32)))
		}
	}
	wantCheck(t, pair(), ever, api.ErrAuditWindow, 0, obs(1<<63, 1, api.ObsClock, 0, 1<<31))
	wantCheck(t, pair(), ever, api.ErrAuditWindow, 0, obs(ever, 1, api.ObsClock, most, most))
	wantCheck(t, pair(), ever, api.ErrAuditCell, 0, obs(1<<63, 1, api.ObsClock, 0, 0))
}

// TestCellIsAskedAheadOfWindow: and of lines and ports.
func TestCellIsAskedAheadOfWindow(t *testing.T) {
	for _, o := range []api.Obs{seen(5000, 3), seen(4999, 0), seen(ever, 7), obs(5000, 1, 0, 0, 0), obs(5000, 1, api.ObsSay, 0, 1), obs(ever, 1, api.ObsFault, 7, 0), obs(4999, 1, api.ObsIrq, 2, 1), obs(10, 1, api.ObsIrq, 2, 1), received(10, 3, 4), obs(4999, 1, api.ObsClock, 4998, 0)} {
		wantCheck(t, pair(), 10, api.ErrAuditCell, 0, o)
		wantCheck(t, pair(), ever, api.ErrAuditCell, 0, o)
	}
	ended := obs(10, 1, api.ObsHalt, 0, 0)
	for _, o := range []api.Obs{seen(5000, 1), seen(ever, 1), obs(60, 1, api.ObsIrq, 2, 0), obs(5000, 1, api.ObsIrq, 2, 0), received(60, 1, 4)} {
		wantCheck(t, pair(), 50, api.ErrAuditCell, 1, ended, o)
	}
}

// TestLines: an interrupt is of a line of that cell.
func TestLines(t *testing.T) {
	g := four()
	at := map[int]uint64{1: 100, 2: 10100, 3: 26000, 4: 28000}
	own := map[int]map[uint32]bool{1: {31: true, 3: true, 0: true}, 2: {2: true}, 4: {4: true}}
	for cell, tick := range at {
		for _, line := range []uint32{0, 1, 2, 3, 4, 5, 30, 31, 32, 33, 255, 256, 259, 1<<31 + 3, 1 << 31, most} {
			e := api.OK
			if !own[cell][line] {
				e = api.ErrAuditLine
			}
			wantCheck(t, g, ever, e, 0, obs(tick, cell, api.ObsIrq, line, 0))
			wantCheck(t, g, tick, api.ErrAuditWindow, 0, obs(tick, cell, api.ObsIrq, line, 0))
			wantCheck(t, g, ever, api.ErrAuditCell, 0, obs(tick, cell, api.ObsIrq, line, 1))
		}
	}
	wantCheck(t, g, ever, api.ErrAuditWindow, 0, obs(99, 1, api.ObsIrq, 7, 0))
	wantCheck(t, g, ever, api.OK, 0, obs(100, 1, api.ObsIrq, 3, 0), obs(101, 1, api.ObsIrq, 3, 0)) // as often as it likes
}

// TestLinesAreOfInterrupts: no other kind is held against them.
func TestLinesAreOfInterrupts(t *testing.T) {
	for kind := api.ObsLoad; kind <= api.ObsSay; kind++ {
		if kind != api.ObsIrq && kind != api.ObsHalt {
			wantCheck(t, four(), ever, api.OK, 0, obs(10102, 2, kind, map[api.ObsKind]uint32{api.ObsClock: 10102, api.ObsFault: 5}[kind], 0))
		}
	}
}
