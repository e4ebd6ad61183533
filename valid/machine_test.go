package valid_test

import (
	"math"
	"testing"

	"cloister/api"
)

func TestPages(t *testing.T) {
	for n, want := range map[int]api.Errno{
		math.MinInt: api.ErrValidMachine, -1: api.ErrValidMachine, 0: api.ErrValidMachine,
		17: api.ErrValidMachine, // the last of the monitor's pages is the page 17
		40: api.OK, 41: api.OK, 4095: api.OK, 4096: api.OK,
		4097: api.ErrValidMachine, 1<<32 + 40: api.ErrValidMachine, math.MaxInt: api.ErrValidMachine,
	} {
		g := good()
		g.Pages = n
		wantCheck(t, "Pages", g, want, 0)
	}
	g := good()
	g.Pages = 18
	wantCheck(t, "just the monitor's pages", g, api.ErrValidRange, 3)
	g.Pages, g.OwnBase, g.OwnPages = 1, 0, 1
	wantCheck(t, "one page", g, api.ErrValidRange, 1)
	g.Pages = 0
	wantCheck(t, "no page", g, api.ErrValidMachine, 0)
}

func TestOwnPages(t *testing.T) {
	const page = api.PageSize
	for _, c := range []struct {
		base  uint32
		pages int
		want  api.Errno
		place int
	}{
		{7*page + 1, 11, api.ErrValidMachine, 0},
		{7*page + 4, 11, api.ErrValidMachine, 0},
		{7*page + 2048, 11, api.ErrValidMachine, 0},
		{7*page - 1, 11, api.ErrValidMachine, 0},
		{7 * page, 0, api.ErrValidMachine, 0},
		{7 * page, -1, api.ErrValidMachine, 0},
		{7 * page, math.MinInt, api.ErrValidMachine, 0},
		{7 * page, 10, api.ErrValidRoom, 0},
		{7 * page, 33, api.ErrValidMeet, 3}, // to memory's end
		{7 * page, 34, api.ErrValidMachine, 0},
		{7 * page, 1 << 20, api.ErrValidMachine, 0},
		{7 * page, 1<<32 + 11, api.ErrValidMachine, 0},
		{7 * page, 1 << 52, api.ErrValidMachine, 0},
		{7 * page, math.MaxInt, api.ErrValidMachine, 0},
		{29 * page, 11, api.ErrValidMeet, 3},
		{30 * page, 11, api.ErrValidMachine, 0},
		{39 * page, 1, api.ErrValidMeet, 3},
		{40 * page, 1, api.ErrValidMachine, 0},
		{0, 41, api.ErrValidMachine, 0},
		{math.MaxUint32 - 4095, 1, api.ErrValidMachine, 0},
		{math.MaxUint32 - 4095, 11, api.ErrValidMachine, 0},
	} {
		g := good()
		g.OwnBase, g.OwnPages = c.base, c.pages
		wantCheck(t, "the monitor's pages", g, c.want, c.place)
	}
}

func TestShape(t *testing.T) {
	for _, c := range []struct {
		shape api.Shape
		want  api.Errno
	}{
		{api.Shape{Sets: 1, Ways: 1, Line: 16}, api.OK},
		{api.Shape{Sets: 256, Ways: 8, Line: 256}, api.OK},
		{api.Shape{Sets: 64, Ways: 3, Line: 64}, api.OK},
		{api.Shape{Sets: 0, Ways: 1, Line: 16}, api.ErrValidMachine},
		{api.Shape{Sets: 3, Ways: 1, Line: 16}, api.ErrValidMachine},
		{api.Shape{Sets: -4, Ways: 1, Line: 16}, api.ErrValidMachine},
		{api.Shape{Sets: 512, Ways: 1, Line: 16}, api.ErrValidMachine},
		{api.Shape{Sets: math.MinInt, Ways: 1, Line: 16}, api.ErrValidMachine},
		{api.Shape{Sets: 4, Ways: 0, Line: 16}, api.ErrValidMachine},
		{api.Shape{Sets: 4, Ways: -1, Line: 16}, api.ErrValidMachine},
		{api.Shape{Sets: 4, Ways: 9, Line: 16}, api.ErrValidMachine},
		{api.Shape{Sets: 4, Ways: 2, Line: 8}, api.ErrValidMachine},
		{api.Shape{Sets: 4, Ways: 2, Line: 48}, api.ErrValidMachine},
		{api.Shape{Sets: 4, Ways: 2, Line: 512}, api.ErrValidMachine},
		{api.Shape{}, api.ErrValidMachine},
	} {
		g := roomy()
		g.Shape = c.shape
		wantCheck(t, "Shape", g, c.want, 0)
	}
}

func TestSlots(t *testing.T) {
	for n, want := range map[int]api.Errno{
		math.MinInt: api.ErrValidMachine, -1: api.ErrValidMachine, 0: api.ErrValidMachine,
		1: api.OK, 2: api.OK, 63: api.OK, 64: api.OK,
		65: api.ErrValidMachine, 1<<32 + 1: api.ErrValidMachine, math.MaxInt: api.ErrValidMachine,
	} {
		g := good()
		g.Slots = n
		wantCheck(t, "Slots", g, want, 0)
	}
}

func TestMajor(t *testing.T) {
	for n, want := range map[uint64]api.Errno{
		0: api.ErrValidMachine, 20000: api.OK, 20001: api.OK,
		1<<40 - 1: api.OK, 1 << 40: api.OK, 1<<40 + 1: api.ErrValidMachine,
		1 << 63: api.ErrValidMachine, math.MaxUint64: api.ErrValidMachine,
	} {
		g := good()
		g.Major = n
		wantCheck(t, "Major", g, want, 0)
	}
	g := good()
	g.Major = 1
	wantCheck(t, "a Major of one tick", g, api.ErrValidWindow, 0)
	g.Major = 19999
	wantCheck(t, "a tick too few", g, api.ErrValidWindow, 4)
}

// TestRoom: what the monitor needs, and one page less.
func TestRoom(t *testing.T) {
	g := crowd(8)
	for _, c := range []struct {
		size, need int
	}{{0, 16}, {64, 17}, {128, 17}, {132, 18}, {256, 18}} {
		g.Samples = nil
		for range 16 {
			g.Samples = append(g.Samples, api.Sample{Writer: 1, Size: c.size, Readers: []int{2}})
		}
		if c.size == 0 {
			g.Samples = nil
		}
		g.Windows[0].Length, g.Windows[0].Start = 100000, 10000
		g.Windows, g.Major = g.Windows[:1], 110000
		g.OwnPages = c.need
		wantCheck(t, "just enough", g, api.OK, 0)
		g.OwnPages = c.need - 1
		wantCheck(t, "a page too few", g, api.ErrValidRoom, 0)
	}
}
