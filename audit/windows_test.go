package audit_test

import (
	"testing"

	"cloister/api"
)

// hours is where steps may begin in the first major frame of four, from first
// to last: worked out by hand. (MaxStep of the cells is 3911, 3911, 1031, 121,
// Switch 148, 244, 180, 116.)
func hours() []struct {
	cell             int
	first, last, end uint64
} {
	return []struct {
		cell             int
		first, last, end uint64
	}{
		{1, 100, 6041, 10100}, {2, 10100, 15945, 20100}, {1, 21000, 21941, 26000},
		{3, 26000, 26789, 28000}, {4, 28000, 28000, 28237}, {4, 28237, 29000, 29237},
		{2, 40000, 55845, 60000},
	}
}

// mayBegin: may a step of the cell begin at that tick, by hours?
func mayBegin(cell int, tick uint64) bool {
	for _, h := range hours() {
		if tick <= maxTick && h.cell == cell && tick%60000 >= h.first && tick%60000 <= h.last {
			return true
		}
	}
	return false
}

// TestWindows: each edge of each window, of each cell, in some major frames; in
// the one but last of which MaxTick is.
func TestWindows(t *testing.T) {
	g := four()
	for _, frame := range []uint64{0, 1, 2, 71582, 71583, 153722867280911, 153722867280912, 153722867280913} {
		for _, h := range hours() {
			for _, edge := range []uint64{h.first, h.last, h.end, (h.first + h.last) / 2} {
				for d := range uint64(5) {
					tick := frame*60000 + edge + d - 2
					for cell := 1; cell <= 4; cell++ {
						e := api.ErrAuditWindow
						if mayBegin(cell, tick) {
							e = api.OK
						}
						wantCheck(t, g, ever, e, 0, seen(tick, cell))
					}
				}
			}
		}
	}
}

// TestNoWindow: a cell that has none observes nothing.
func TestNoWindow(t *testing.T) {
	g := pair()
	g.Windows = g.Windows[:1]
	for _, tick := range []uint64{0, 1, 5000, 7000, 9999, 10000, maxTick} {
		wantCheck(t, g, ever, api.ErrAuditWindow, 0, seen(tick, 2))
	}
	wantCheck(t, g, ever, api.ErrAuditWindow, 0, seen(5000, 1))
	wantCheck(t, g, ever, api.OK, 0, seen(10000, 1))
}

// TestAheadOfTheFirstWindow: there is none that started ahead of that tick.
func TestAheadOfTheFirstWindow(t *testing.T) {
	for _, tick := range []uint64{0, 1, 50, 99} {
		wantCheck(t, four(), ever, api.ErrAuditWindow, 0, seen(tick, 1))
		wantCheck(t, four(), ever, api.ErrAuditWindow, 0, seen(tick, 2))
	}
	wantCheck(t, four(), ever, api.OK, 0, seen(100, 1))
}

// TestWholeFrame: a window that fills the major frame, and one of one step.
func TestWholeFrame(t *testing.T) {
	g := machine(1)
	g.Major, g.Windows = api.MaxMajor, []api.Window{{Cell: 1, Length: api.MaxMajor}}
	for _, frame := range []uint64{0, 1, maxTick / api.MaxMajor} { // the last one ends with MaxTick
		wantCheck(t, g, ever, api.OK, 0, seen(frame*api.MaxMajor, 1), seen((frame+1)*api.MaxMajor-237, 1))
		wantCheck(t, g, ever, api.ErrAuditWindow, 0, seen((frame+1)*api.MaxMajor-236, 1))
	}
	g.Major, g.Windows[0].Length = 237, 237
	wantCheck(t, g, ever, api.OK, 0, seen(0, 1), seen(237, 1), seen(474, 1))
	for tick := uint64(1); tick < 237; tick++ {
		wantCheck(t, g, ever, api.ErrAuditWindow, 1, seen(0, 1), seen(tick, 1), seen(237, 1))
	}
}

// TestTo: what is observed is observed ahead of the tick to which it ran.
func TestTo(t *testing.T) {
	g := pair()
	for _, tick := range []uint64{0, 1, 100, 4763, 5000, 9763, 10000, 1 << 33, 1e18 + 5000, maxTick - 1, maxTick} {
		cell := 1 + int(tick/5000%2)
		for _, to := range []uint64{0, 1, tick / 2, tick - 1, tick, tick + 1, tick + 2, 1 << 62, maxTick, 1 << 63, ever - 1, ever} {
			if tick < to {
				wantCheck(t, g, to, api.OK, 0, seen(tick, cell))
				continue
			}
			wantCheck(t, g, to, api.ErrAuditWindow, 0, seen(tick, cell))
			if tick > 10000 {
				wantCheck(t, g, max(to, 6000), api.ErrAuditWindow, 2, seen(5, 1), seen(5001, 2), seen(tick, cell))
			}
		}
	}
}

// TestEndOfTime: MaxTick is a tick, and there is none behind it.
func TestEndOfTime(t *testing.T) {
	g := pair() // MaxTick is 807 behind the start of a window of the second cell
	wantCheck(t, g, ever, api.OK, 0, seen(maxTick-807, 2), seen(maxTick, 2))
	wantCheck(t, g, 1<<63, api.OK, 0, seen(maxTick, 2))
	wantCheck(t, g, maxTick, api.ErrAuditWindow, 0, seen(maxTick, 2))
	wantCheck(t, g, ever, api.ErrAuditWindow, 0, seen(maxTick-808, 2))
	wantCheck(t, g, ever, api.ErrAuditWindow, 0, seen(maxTick, 1))
	for _, tick := range []uint64{1 << 63, 1<<63 + 1, 1<<63 + 5000, 1<<63 + 1e15, ever - 1, ever} {
		for cell := 1; cell <= 2; cell++ {
			wantCheck(t, g, ever, api.ErrAuditWindow, 0, seen(tick, cell))
			wantCheck(t, g, ever, api.ErrAuditWindow, 1, seen(maxTick, 2), seen(tick, cell))
		}
	}
}

// TestRoom: the greatest message that a cell writes or reads, by any port, what
// can join, and the cache, bear on where its steps begin. (MaxStep and Switch of
// both cells stand beside them.)
func TestRoom(t *testing.T) {
	for _, x := range []struct {
		last1, last2 uint64
		change       func(g *api.Config)
	}{
		{4763, 9763, func(*api.Config) {}},
		{3905, 8883, func(g *api.Config) { // 971 and 124, 971 and 146
			g.Samples = []api.Sample{{Writer: 1, Size: 16, Readers: []int{2}}, {Writer: 2, Size: 60, Readers: []int{1}}}
		}},
		{4627, 9633, func(g *api.Config) { // 251 and 122, 251 and 116
			g.Queues = []api.Queue{{Writer: 1, Reader: 2, Size: 12, Depth: 5, Quota: 1}}
		}},
		{4603, 9633, func(g *api.Config) { // as many may join as the queue is deep: 146
			g.Queues = []api.Queue{{Writer: 1, Reader: 2, Size: 12, Depth: 5, Quota: 1, Flow: true}}
		}},
		{3791, 8791, func(g *api.Config) { g.Shape = api.Shape{Sets: 16, Ways: 8, Line: 16} }}, // 121 and 1088
	} {
		g := pair()
		x.change(&g)
		for cell, last := range map[int]uint64{1: x.last1, 2: x.last2} {
			wantCheck(t, g, ever, api.OK, 0, seen(last, cell))
			wantCheck(t, g, ever, api.ErrAuditWindow, 0, seen(last+1, cell))
		}
	}
}

// TestWindowIsAskedAheadOfLines: and of ports.
func TestWindowIsAskedAheadOfLines(t *testing.T) {
	g := four()
	for _, tick := range []uint64{99, 6042, 10099, 20999, 30000} {
		wantCheck(t, g, ever, api.ErrAuditWindow, 0, obs(tick, 1, api.ObsIrq, 9, 0))
		wantCheck(t, g, ever, api.ErrAuditWindow, 0, received(tick, 1, 4))
	}
	wantCheck(t, g, 150, api.ErrAuditWindow, 0, received(150, 1, 4))
	wantCheck(t, g, 151, api.ErrAuditPort, 0, received(150, 1, 4))
}
