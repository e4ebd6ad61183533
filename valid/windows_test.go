package valid_test

import (
	"math"
	"testing"

	"cloister/api"
	"cloister/valid"
)

func TestWindows(t *testing.T) {
	to := func(i int, w api.Window) func(g *api.Config) {
		return func(g *api.Config) { g.Windows[i] = w }
	}
	wantChanges(t, good, []change{
		{"none", func(g *api.Config) { g.Windows = nil }, api.ErrValidWindow, 0},
		{"an empty list", func(g *api.Config) { g.Windows = g.Windows[:0] }, api.ErrValidWindow, 0},
		{"one", func(g *api.Config) { g.Windows = g.Windows[4:] }, api.OK, 0},
		{"of nobody", to(1, api.Window{Cell: 0, Start: 1191, Length: 4283}), api.ErrValidWindow, 1},
		{"of cell 4 of three", to(1, api.Window{Cell: 4, Start: 1191, Length: 4283}), api.ErrValidWindow, 1},
		{"of cell 8 of three", to(4, api.Window{Cell: 8, Start: 15100, Length: 4900}), api.ErrValidWindow, 4},
		{"of cell -1", to(0, api.Window{Cell: -1, Length: 1191}), api.ErrValidWindow, 0},
		{"of the least number", to(0, api.Window{Cell: math.MinInt, Length: 1191}), api.ErrValidWindow, 0},
		{"of the greatest number", to(0, api.Window{Cell: math.MaxInt, Length: 1191}), api.ErrValidWindow, 0},
		{"of no ticks", to(2, api.Window{Cell: 3, Start: 6000}), api.ErrValidWindow, 2},
		{"of no ticks at the end", func(g *api.Config) { g.Windows = append(g.Windows, api.Window{Cell: 1, Start: 20000}) }, api.ErrValidWindow, 5},
		{"a tick too soon", to(1, api.Window{Cell: 2, Start: 1190, Length: 4283}), api.ErrValidWindow, 1},
		{"where the one ahead starts", to(1, api.Window{Cell: 2, Start: 0, Length: 4283}), api.ErrValidWindow, 1},
		{"where the one ahead of both ends", to(2, api.Window{Cell: 3, Start: 1191, Length: 4029}), api.ErrValidWindow, 2},
		{"a tick later", to(1, api.Window{Cell: 2, Start: 1192, Length: 4283}), api.OK, 0},
		{"up to the next one", to(1, api.Window{Cell: 2, Start: 1191, Length: 4809}), api.OK, 0},
		{"into the next one", to(1, api.Window{Cell: 2, Start: 1191, Length: 4810}), api.ErrValidWindow, 2},
		{"a tick behind Major", to(4, api.Window{Cell: 2, Start: 15100, Length: 4901}), api.ErrValidWindow, 4},
		{"from Major on", to(4, api.Window{Cell: 2, Start: 20000, Length: 1}), api.ErrValidWindow, 4},
		{"behind Major", to(4, api.Window{Cell: 2, Start: 20001, Length: 4900}), api.ErrValidWindow, 4},
		{"one that wraps to 0", to(4, api.Window{Cell: 2, Start: 15100, Length: math.MaxUint64 - 15099}), api.ErrValidWindow, 4},
		{"one that wraps to 10000", to(4, api.Window{Cell: 2, Start: 15100, Length: math.MaxUint64 - 5099}), api.ErrValidWindow, 4},
		{"the longest", to(0, api.Window{Cell: 1, Length: math.MaxUint64}), api.ErrValidWindow, 0},
		{"the latest", to(0, api.Window{Cell: 1, Start: math.MaxUint64, Length: 1191}), api.ErrValidWindow, 0},
		{"the latest of all ticks", to(4, api.Window{Cell: 2, Start: math.MaxUint64, Length: math.MaxUint64}), api.ErrValidWindow, 4},
		{"the first of two", func(g *api.Config) { g.Windows[3].Cell, g.Windows[1].Length = 0, 0 }, api.ErrValidWindow, 1},
		{"ahead of one that is too short", func(g *api.Config) { g.Windows[0].Length, g.Windows[4].Cell = 1, 0 }, api.ErrValidWindow, 4},
	})
}

func TestTheLongestWindow(t *testing.T) {
	g := good()
	g.Major, g.Windows = api.MaxMajor, []api.Window{{Cell: 1, Length: api.MaxMajor}}
	wantCheck(t, "all of the frame", g, api.OK, 0)
	g.Windows[0].Length++
	wantCheck(t, "a tick more", g, api.ErrValidWindow, 0)
	g.Windows[0] = api.Window{Cell: 1, Start: api.MaxMajor - 1191, Length: 1191}
	wantCheck(t, "the end of the frame", g, api.OK, 0)
	g.Windows[0].Start++
	wantCheck(t, "a tick later", g, api.ErrValidWindow, 0)
}

func TestHowManyWindows(t *testing.T) {
	for n := 1; n < 70; n++ {
		g := crowd(2)
		g.Major, g.Windows = 1<<20, nil
		for i := range n {
			g.Windows = append(g.Windows, api.Window{Cell: 1 + i%2, Start: uint64(i) * 1000, Length: 1000})
		}
		if n <= 32 {
			wantCheck(t, "windows", g, api.OK, 0)
		} else {
			wantCheck(t, "too many windows", g, api.ErrValidWindow, 32)
		}
		for i := range n {
			g.Windows[i].Cell = 3
			wantCheck(t, "one that is wrong", g, api.ErrValidWindow, min(i, 32))
			g.Windows[i].Cell, g.Windows[i].Length = 1+i%2, 1
			if n <= 32 {
				wantCheck(t, "one that is too short", g, api.ErrValidBudget, i)
			}
			g.Windows[i].Length = 1000
		}
	}
}

// TestBudget: as many ticks as MaxStep and Switch come to, and one less.
func TestBudget(t *testing.T) {
	wantChanges(t, good, []change{
		{"cell 1", func(g *api.Config) { g.Windows[0].Length = 1190 }, api.ErrValidBudget, 0},
		{"cell 2", func(g *api.Config) { g.Windows[1].Length = 4282 }, api.ErrValidBudget, 1},
		{"cell 3", func(g *api.Config) { g.Windows[2].Length = 4028 }, api.ErrValidBudget, 2},
		{"cell 1, later", func(g *api.Config) { g.Windows[3].Length = 1190 }, api.ErrValidBudget, 3},
		{"cell 1, later, long enough", func(g *api.Config) { g.Windows[3].Length = 1191 }, api.OK, 0},
		{"cell 2, later", func(g *api.Config) { g.Windows[4].Length = 4282 }, api.ErrValidBudget, 4},
		{"one tick", func(g *api.Config) { g.Windows[4].Length = 1 }, api.ErrValidBudget, 4},
		{"the first of two", func(g *api.Config) { g.Windows[3].Length, g.Windows[2].Length = 1, 1 }, api.ErrValidBudget, 2},
		{"another cache", func(g *api.Config) { g.Shape.Ways = 3 }, api.ErrValidBudget, 0},
		{"a cell without windows", func(g *api.Config) { g.Windows = g.Windows[:1]; g.Queues[1].Quota = 1 }, api.OK, 0},
	})
	for n := 1; n <= 8; n++ {
		g := crowd(n)
		for i := range g.Windows {
			g.Windows[i].Length = valid.MaxStep(g, i+1) + valid.Switch(g, i+1)
		}
		wantCheck(t, "the shortest windows", g, api.OK, 0)
		for i := range g.Windows {
			g.Windows[i].Length--
			wantCheck(t, "a tick less", g, api.ErrValidBudget, i)
			g.Windows[i].Length++
		}
	}
}
