package gic_test

import (
	"math"
	"testing"

	"cloister/api"
	"cloister/gic"
)

const (
	lines = 32
	cells = 8
	all   = math.MaxUint32
)

// noLines are numbers that no line has.
func noLines() []int {
	return []int{-1, -2, -32, lines, lines + 1, 2 * lines, 64, 256, 1 << 31, 1 << 32, 1<<32 + 3, math.MaxInt, math.MinInt}
}

// noCells are numbers that neither a cell has nor nobody.
func noCells() []int {
	return []int{-1, -2, -8, cells + 1, cells + 2, 16, 256, 257, 1 << 31, 1 << 32, 1<<32 + 1, math.MaxInt, math.MinInt}
}

// routes is a controller whose lines go to these cells, from line 0 on.
func routes(t *testing.T, cells ...int) *gic.Gic {
	t.Helper()
	g := gic.New()
	for line, cell := range cells {
		wantRoute(t, g, line, cell, api.OK)
	}
	return g
}

// shared has all lines pending and the even ones masked; line n goes to the
// cell n mod 9.
func shared(t *testing.T) *gic.Gic {
	t.Helper()
	g := gic.New()
	for line := range lines {
		wantRoute(t, g, line, line%9, api.OK)
		wantRaise(t, g, line, line%9 != 0, api.OK)
	}
	for cell := range cells {
		g.Mask(cell+1, 0x55555555)
	}
	return g
}

func wantRoute(t *testing.T, g *gic.Gic, line, cell int, want api.Errno) {
	t.Helper()
	if e := g.Route(line, cell); e != want {
		t.Errorf("Route(%d, %d) is %d, want %d", line, cell, e, want)
	}
}

func wantRaise(t *testing.T, g *gic.Gic, line int, want bool, code api.Errno) {
	t.Helper()
	if ok, e := g.Raise(line); ok != want || e != code {
		t.Errorf("Raise(%d) is %v, %d, want %v, %d", line, ok, e, want, code)
	}
}

func wantTake(t *testing.T, g *gic.Gic, cell, want int) {
	t.Helper()
	if n, ok := g.Take(cell); n != want || !ok {
		t.Errorf("Take(%d) is %d, %v, want %d", cell, n, ok, want)
	}
}

func wantNext(t *testing.T, g *gic.Gic, cell, want int) {
	t.Helper()
	before := g.State()
	if n, ok := g.Next(cell); n != want || !ok {
		t.Errorf("Next(%d) is %d, %v, want %d", cell, n, ok, want)
	}
	wantState(t, "Next", g, before)
}

// wantNone: nothing waits for the cell, nor is there anything to take.
func wantNone(t *testing.T, g *gic.Gic, cell int) {
	t.Helper()
	before := g.State()
	if w := g.Waiting(cell); w != 0 {
		t.Errorf("Waiting(%d) is %#x, want none", cell, w)
	}
	if n, ok := g.Next(cell); n != 0 || ok {
		t.Errorf("Next(%d) is %d, %v, want none", cell, n, ok)
	}
	if n, ok := g.Take(cell); n != 0 || ok {
		t.Errorf("Take(%d) is %d, %v, want none", cell, n, ok)
	}
	wantState(t, "nothing waits", g, before)
}

func wantSets(t *testing.T, g *gic.Gic, cell int, waiting, masked uint32) {
	t.Helper()
	if w := g.Waiting(cell); w != waiting {
		t.Errorf("Waiting(%d) is %#x, want %#x", cell, w, waiting)
	}
	if m := g.Masked(cell); m != masked {
		t.Errorf("Masked(%d) is %#x, want %#x", cell, m, masked)
	}
}

func wantState(t *testing.T, what string, g *gic.Gic, want api.GicState) {
	t.Helper()
	if s := g.State(); s != want {
		t.Errorf("%s: the state is %v, want %v", what, s, want)
	}
}

func TestErrorNumbers(t *testing.T) {
	if api.ErrGicLine != 90 || api.ErrGicCell != 91 || api.Lines != lines || api.MaxCells != cells {
		t.Errorf("%d, %d, %d, %d", api.ErrGicLine, api.ErrGicCell, api.Lines, api.MaxCells)
	}
}

// TestExamples: those of the chapter.
func TestExamples(t *testing.T) {
	g := gic.New()
	wantRoute(t, g, 3, 1, api.OK)
	wantRoute(t, g, 5, 1, api.OK)
	wantRoute(t, g, 4, 2, api.OK)
	for _, line := range []int{5, 3, 4} {
		wantRaise(t, g, line, true, api.OK)
	}
	wantRaise(t, g, 3, false, api.OK)
	wantTake(t, g, 1, 3)
	wantTake(t, g, 1, 5)
	wantNone(t, g, 1)
	wantSets(t, g, 2, 16, 0)

	g.Mask(1, 8)
	wantRaise(t, g, 3, true, api.OK)
	wantNone(t, g, 1)
	g.Mask(1, 0)
	wantNext(t, g, 1, 3)

	wantRaise(t, g, 9, false, api.OK)
	wantRaise(t, g, 32, false, api.ErrGicLine)

	wantRoute(t, g, 3, 2, api.OK)
	wantNone(t, g, 1)
	wantSets(t, g, 2, 16, 0)
}

func TestNew(t *testing.T) {
	g := gic.New()
	if g == nil {
		t.Fatal("New() is nil")
	}
	wantState(t, "new", g, api.GicState{})
	for cell := range cells + 1 {
		wantSets(t, g, cell, 0, 0)
		wantNone(t, g, cell)
	}
	for line := range lines {
		wantRaise(t, g, line, false, api.OK)
	}
	wantState(t, "raised for nobody", g, api.GicState{})
}

// TestNewApart: controllers have nothing to do with one another.
func TestNewApart(t *testing.T) {
	a, b := gic.New(), gic.New()
	if a == b {
		t.Fatal("New() is the same twice")
	}
	wantRoute(t, a, 3, 1, api.OK)
	wantRaise(t, a, 3, true, api.OK)
	a.Mask(1, all)
	wantState(t, "another one was changed", b, api.GicState{})
	before := a.State()
	wantRoute(t, b, 3, 2, api.OK)
	wantRaise(t, b, 3, true, api.OK)
	b.Mask(2, all)
	b.Clear(2)
	wantState(t, "another one was changed", a, before)
	wantState(t, "a third one", gic.New(), api.GicState{})
}

func TestRoute(t *testing.T) {
	for line := range lines {
		for cell := range cells + 1 {
			g := gic.New()
			wantRoute(t, g, line, cell, api.OK)
			want := api.GicState{}
			want.Route[line] = cell
			wantState(t, "routed", g, want)
			wantRaise(t, g, line, cell != 0, api.OK)
			for other := range cells + 1 {
				if other != cell || cell == 0 {
					wantSets(t, g, other, 0, 0)
				} else {
					wantSets(t, g, other, 1<<line, 0)
				}
			}
		}
	}
}

func TestRouteRefused(t *testing.T) {
	for what, g := range map[string]*gic.Gic{"new": gic.New(), "shared": shared(t)} {
		before := g.State()
		for _, line := range noLines() {
			for _, cell := range append(noCells(), 0, 1, cells) { // the line is named first
				wantRoute(t, g, line, cell, api.ErrGicLine)
			}
		}
		for line := range lines {
			for _, cell := range noCells() {
				wantRoute(t, g, line, cell, api.ErrGicCell)
			}
		}
		wantState(t, what, g, before)
	}
}

// TestRouteAgain: to another one, the line is neither pending nor masked then;
// to the same one, nothing is changed. Other lines stay as they are.
func TestRouteAgain(t *testing.T) {
	for line := range lines {
		for cell := range cells + 1 {
			g := shared(t)
			want := g.State()
			if want.Route[line] != cell {
				want.Route[line] = cell
				want.Pending &^= 1 << line
				want.Masked &^= 1 << line
			}
			wantRoute(t, g, line, cell, api.OK)
			wantState(t, "routed again", g, want)
		}
	}
}

// TestRouteThereAndBack: what a line was ahead of that is not remembered.
func TestRouteThereAndBack(t *testing.T) {
	for _, by := range []int{0, 2} {
		g := routes(t, 1, 1)
		wantRaise(t, g, 0, true, api.OK)
		wantRaise(t, g, 1, true, api.OK)
		g.Mask(1, 1)
		wantRoute(t, g, 0, by, api.OK)
		wantSets(t, g, by, 0, 0)
		wantSets(t, g, 1, 2, 0)
		wantRoute(t, g, 0, 1, api.OK)
		wantSets(t, g, 1, 2, 0)
		wantRaise(t, g, 0, true, api.OK)
		wantSets(t, g, 1, 3, 0)
	}
}

func TestRaise(t *testing.T) {
	for line := range lines {
		g := gic.New()
		for n := range lines {
			wantRoute(t, g, n, 1+n%cells, api.OK)
		}
		want := g.State()
		want.Pending = 1 << line
		wantRaise(t, g, line, true, api.OK)
		wantState(t, "raised", g, want)
		wantRaise(t, g, line, false, api.OK)
		wantState(t, "raised twice", g, want)
		wantTake(t, g, 1+line%cells, line)
		wantRaise(t, g, line, true, api.OK)
		wantState(t, "raised behind Take", g, want)
	}
}

func TestRaiseRefused(t *testing.T) {
	for what, g := range map[string]*gic.Gic{"new": gic.New(), "shared": shared(t)} {
		before := g.State()
		for _, line := range noLines() {
			wantRaise(t, g, line, false, api.ErrGicLine)
		}
		wantState(t, what, g, before)
	}
}

// TestRaiseForNobody: nothing is latched that could be told behind a route.
func TestRaiseForNobody(t *testing.T) {
	g := shared(t)
	before := g.State()
	for line := 0; line < lines; line += 9 {
		wantRaise(t, g, line, false, api.OK)
	}
	wantState(t, "raised for nobody", g, before)
	wantRoute(t, g, 9, 7, api.OK)
	if g.Waiting(7)&(1<<9) != 0 {
		t.Errorf("a line that was raised for nobody waits")
	}
	wantRaise(t, g, 9, true, api.OK)
}

// TestRaiseMasked: a masked line is latched all the same, once.
func TestRaiseMasked(t *testing.T) {
	g := routes(t, 1)
	g.Mask(1, 1)
	wantRaise(t, g, 0, true, api.OK)
	wantRaise(t, g, 0, false, api.OK)
	wantNone(t, g, 1)
	wantSets(t, g, 1, 0, 1)
	g.Mask(1, 0)
	wantSets(t, g, 1, 1, 0)
	wantTake(t, g, 1, 0)
	wantNone(t, g, 1)
}
