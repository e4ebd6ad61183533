package gic_test

import (
	"testing"

	"cloister/api"
	"cloister/gic"
)

func wantLoad(t *testing.T, g *gic.Gic, s api.GicState, want api.Errno) {
	t.Helper()
	if e := g.Load(s); e != want {
		t.Errorf("Load(%v) is %d, want %d", s, e, want)
	}
}

func TestState(t *testing.T) {
	g := routes(t, 1, 0, 8, 1)
	want := api.GicState{Route: [lines]int{1, 0, 8, 1}}
	wantState(t, "routed", g, want)
	wantRaise(t, g, 2, true, api.OK)
	wantRaise(t, g, 3, true, api.OK)
	want.Pending = 12
	wantState(t, "raised", g, want)
	g.Mask(1, all)
	want.Masked = 9
	wantState(t, "masked", g, want)
	s := g.State()
	s.Route[0], s.Pending, s.Masked = 7, all, all // the caller's own
	wantState(t, "a state was changed", g, want)
}

// TestLoad: all is as it says, whatever it was.
func TestLoad(t *testing.T) {
	full := api.GicState{Pending: all, Masked: all}
	for line := range lines {
		full.Route[line] = 1 + line%cells
	}
	for _, s := range []api.GicState{
		{},
		full,
		shared(t).State(),
		{Route: [lines]int{7: 2}, Pending: 128, Masked: 128},
		{Route: [lines]int{7: 2}, Pending: 128},
		{Route: [lines]int{7: 2}, Masked: 128},
		{Route: [lines]int{0: 1, 31: 8}, Pending: 1, Masked: 1 << 31},
		{Route: [lines]int{0: 1, 31: 8}, Pending: 1 << 31, Masked: 1},
	} {
		for _, g := range []*gic.Gic{gic.New(), shared(t)} {
			wantLoad(t, g, s, api.OK)
			wantState(t, "loaded", g, s)
			wantLoad(t, g, s, api.OK)
			wantState(t, "loaded twice", g, s)
		}
	}
}

// TestLoadKeepsNothing: what was loaded goes its own way.
func TestLoadKeepsNothing(t *testing.T) {
	g, h := shared(t), gic.New()
	s := g.State()
	wantLoad(t, h, s, api.OK)
	before := s
	s.Route[1], s.Pending, s.Masked = 0, 0, 0
	wantState(t, "a state was changed", h, before)
	h.Clear(1)
	wantState(t, "another one was cleared", g, before)
	wantRoute(t, g, 2, 0, api.OK)
	if h.State().Route[2] != 2 {
		t.Errorf("another one was routed, and this one too")
	}
}

func TestLoadNoCell(t *testing.T) {
	for line := range lines {
		for _, cell := range noCells() {
			for _, g := range []*gic.Gic{gic.New(), shared(t)} {
				before := g.State()
				s := shared(t).State()
				s.Route[line] = cell
				wantLoad(t, g, s, api.ErrGicCell)
				s.Pending, s.Masked = all, all // the cell is named first, wherever it stands
				wantLoad(t, g, s, api.ErrGicCell)
				wantState(t, "refused", g, before)
			}
		}
	}
}

// TestLoadNobody: a line that is routed to nobody, and pending or masked.
func TestLoadNobody(t *testing.T) {
	for line := range lines {
		for _, g := range []*gic.Gic{gic.New(), shared(t)} {
			before := g.State()
			s := api.GicState{Pending: all, Masked: all}
			for n := range lines {
				s.Route[n] = cells
			}
			s.Route[line] = 0
			wantLoad(t, g, s, api.ErrGicLine)
			s.Pending &^= 1 << line
			wantLoad(t, g, s, api.ErrGicLine)
			s.Masked, s.Pending = s.Pending, s.Masked|1<<line
			wantLoad(t, g, s, api.ErrGicLine)
			s.Pending, s.Masked = 1<<line, 0
			wantLoad(t, g, s, api.ErrGicLine)
			s.Pending, s.Masked = 0, 1<<line
			wantLoad(t, g, s, api.ErrGicLine)
			wantState(t, "refused", g, before)
			s.Pending, s.Masked = all&^(1<<line), all&^(1<<line)
			wantLoad(t, g, s, api.OK)
			wantState(t, "loaded", g, s)
		}
	}
}

// TestRaiseOfLoaded: a line that was loaded as pending is raised with false,
// and taken.
func TestRaiseOfLoaded(t *testing.T) {
	g := gic.New()
	wantLoad(t, g, api.GicState{Route: [lines]int{7: 2, 8: 2, 9: 2}, Pending: 0x180, Masked: 0x280}, api.OK)
	wantSets(t, g, 2, 0x100, 0x280)
	wantRaise(t, g, 7, false, api.OK)
	wantRaise(t, g, 8, false, api.OK)
	wantRaise(t, g, 9, true, api.OK)
	wantTake(t, g, 2, 8)
	wantNone(t, g, 2)
	wantLines(t, g, 2, 7, 8, 9)
}
