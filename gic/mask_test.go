package gic_test

import (
	"testing"

	"cloister/api"
	"cloister/gic"
)

// sets are some sets of lines, the edges among them.
func sets() []uint32 {
	l := []uint32{0, all, 0x55555555, 0xaaaaaaaa, 0x0000ffff, 0xffff0000, 0x7fffffff, 0xfffffffe, 0x12345678}
	for line := range lines {
		l = append(l, 1<<line)
	}
	return l
}

// ownLines is the set of lines that go to a cell of shared.
func ownLines(cell int) uint32 {
	var set uint32
	for line := cell; line < lines; line += 9 {
		set |= 1 << line
	}
	return set
}

// TestMask: of a cell's own lines those in the set are masked, the others not,
// whatever they were; other cells' lines stay as they are.
func TestMask(t *testing.T) {
	for cell := 1; cell <= cells; cell++ {
		own := ownLines(cell)
		g := shared(t)
		for _, set := range sets() {
			want := g.State()
			want.Masked = want.Masked&^own | own&set
			g.Mask(cell, set)
			wantState(t, "masked", g, want)
			wantSets(t, g, cell, own&^set, own&set)
			g.Mask(cell, set)
			wantState(t, "masked twice", g, want)
			for other := 1; other <= cells; other++ {
				if other != cell {
					even := ownLines(other) & 0x55555555
					wantSets(t, g, other, ownLines(other)&^even, even)
				}
			}
		}
	}
}

// TestMaskNoCell: nobody's lines cannot be masked, nor those of no cell.
func TestMaskNoCell(t *testing.T) {
	for what, g := range map[string]*gic.Gic{"new": gic.New(), "shared": shared(t)} {
		before := g.State()
		for _, cell := range append(noCells(), 0) {
			for _, set := range sets() {
				g.Mask(cell, set)
				wantSets(t, g, cell, 0, 0)
			}
		}
		wantState(t, what, g, before)
		wantRoute(t, g, 9, 1, api.OK)
		if g.Masked(1)&(1<<9) != 0 {
			t.Errorf("%s: a line is masked that was nobody's", what)
		}
	}
}

// TestMaskedAhead: a cell cannot mask what goes to it only later.
func TestMaskedAhead(t *testing.T) {
	g := routes(t, 1, 0, 2)
	g.Mask(1, all)
	g.Mask(2, all)
	wantSets(t, g, 1, 0, 1)
	wantSets(t, g, 2, 0, 4)
	wantRoute(t, g, 1, 1, api.OK)
	wantRoute(t, g, 2, 1, api.OK)
	wantSets(t, g, 1, 0, 1)
	wantSets(t, g, 2, 0, 0)
}

// TestMaskTellsNothing: what is masked waits no more, and again when it is not.
func TestMaskTellsNothing(t *testing.T) {
	g := routes(t, 1, 1, 1, 2)
	for line := range 4 {
		wantRaise(t, g, line, true, api.OK)
	}
	g.Mask(1, 1)
	wantNext(t, g, 1, 1)
	g.Mask(1, 3)
	wantNext(t, g, 1, 2)
	g.Mask(1, 5)
	wantNext(t, g, 1, 1)
	g.Mask(1, 7)
	wantNone(t, g, 1)
	wantNext(t, g, 2, 3)
	g.Mask(1, 8)
	wantNext(t, g, 1, 0)
	wantNext(t, g, 2, 3)
	wantSets(t, g, 1, 7, 0)
	wantSets(t, g, 2, 8, 0)
}

// TestTake: the lowest of those that wait, one by one, and no other cell's.
func TestTake(t *testing.T) {
	for cell := 1; cell <= cells; cell++ {
		g := shared(t)
		want := g.State()
		for line := cell; line < lines; line += 9 {
			if line%2 == 0 { // masked
				continue
			}
			wantNext(t, g, cell, line)
			wantTake(t, g, cell, line)
			want.Pending &^= 1 << line
			wantState(t, "taken", g, want)
		}
		wantNone(t, g, cell)
		wantSets(t, g, cell, 0, ownLines(cell)&0x55555555)
	}
}

// TestTakeAll: all lines are one cell's.
func TestTakeAll(t *testing.T) {
	g := gic.New()
	for line := range lines {
		wantRoute(t, g, line, 8, api.OK)
	}
	for line := lines - 1; line >= 0; line-- {
		wantRaise(t, g, line, true, api.OK)
		wantNext(t, g, 8, line)
	}
	wantSets(t, g, 8, all, 0)
	for line := range lines {
		wantTake(t, g, 8, line)
	}
	wantNone(t, g, 8)
}

// TestTakeLeavesMasks: a line that was taken is masked as it was.
func TestTakeLeavesMasks(t *testing.T) {
	g := routes(t, 1, 1)
	g.Mask(1, 2)
	wantRaise(t, g, 0, true, api.OK)
	wantRaise(t, g, 1, true, api.OK)
	wantTake(t, g, 1, 0)
	wantNone(t, g, 1)
	wantSets(t, g, 1, 0, 2)
	wantRaise(t, g, 1, false, api.OK)
	wantRaise(t, g, 0, true, api.OK)
	wantTake(t, g, 1, 0)
}

func TestTakeNoCell(t *testing.T) {
	for _, g := range []*gic.Gic{gic.New(), shared(t)} {
		for _, cell := range append(noCells(), 0) {
			wantNone(t, g, cell)
			wantSets(t, g, cell, 0, 0)
		}
	}
}

// TestClear: a cell's lines are pending no more, masked ones too; they are
// masked as they were.
func TestClear(t *testing.T) {
	for cell := 1; cell <= cells; cell++ {
		g := shared(t)
		want := g.State()
		want.Pending &^= ownLines(cell)
		g.Clear(cell)
		wantState(t, "cleared", g, want)
		wantNone(t, g, cell)
		g.Clear(cell)
		wantState(t, "cleared twice", g, want)
		for line := cell; line < lines; line += 9 {
			wantRaise(t, g, line, true, api.OK)
		}
		wantState(t, "raised again", g, shared(t).State())
	}
}

func TestClearNoCell(t *testing.T) {
	for what, g := range map[string]*gic.Gic{"new": gic.New(), "shared": shared(t)} {
		before := g.State()
		for _, cell := range append(noCells(), 0) {
			g.Clear(cell)
			wantState(t, what, g, before)
		}
	}
}
