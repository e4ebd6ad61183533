package hyper_test

import (
	"testing"

	"cloister/api"
)

// bits is a set of lines.
func bits(lines ...int) uint32 {
	var set uint32
	for _, l := range lines {
		set |= 1 << l
	}
	return set
}

// TestMask: of the cell's own lines alone, whatever the set says of others.
func TestMask(t *testing.T) {
	m := booted(t, three())
	m.Gic.Mask(2, bits(5))
	want := m.Gic.State()
	for _, x := range []struct{ set, own uint32 }{
		{bits(3, 4, 31), bits(3, 4, 31)},
		{bits(4), bits(4)},
		{1<<32 - 1, bits(3, 4, 31)},
		{bits(0, 5, 6, 30), 0},
		{bits(31), bits(31)},
		{0, 0},
	} {
		wantValue(t, m, 1, 7, mask, regs(x.set, 1, 2), 0)
		want.Masked = x.own | bits(5)
		if s := m.Gic.State(); s != want {
			t.Errorf("%#x: %+v, want %+v", x.set, s, want)
		}
	}
	wantValue(t, m, 3, 7, mask, regs(1<<32-1), 0) // it has no lines
	if s := m.Gic.State(); s != want {
		t.Errorf("a cell without lines: %+v, want %+v", s, want)
	}
}

// TestWaiting: the cell's own lines that are pending and not masked.
func TestWaiting(t *testing.T) {
	m := booted(t, three())
	for cell := 1; cell <= 3; cell++ {
		wantValue(t, m, cell, 7, waiting, regs(), 0)
	}
	for _, line := range []int{31, 3, 5, 0, 9} {
		m.Gic.Raise(line)
	}
	before := stateOf(m)
	for range 2 { // asking takes none
		wantValue(t, m, 1, 7, waiting, regs(1<<32-1), bits(3, 31))
		wantValue(t, m, 2, 7, waiting, regs(0), bits(0, 5))
		wantValue(t, m, 3, 7, waiting, regs(), 0)
	}
	wantState(t, m, before)
	wantValue(t, m, 1, 7, mask, regs(bits(31)), 0)
	wantValue(t, m, 1, 7, waiting, regs(), bits(3))
	wantValue(t, m, 2, 7, mask, regs(bits(3, 5)), 0)
	wantValue(t, m, 2, 7, waiting, regs(), bits(0))
	wantValue(t, m, 1, 7, waiting, regs(), bits(3))
	wantValue(t, m, 1, 7, mask, regs(0), 0)
	wantValue(t, m, 1, 7, waiting, regs(), bits(3, 31))
	if line, there := m.Gic.Take(1); line != 3 || !there {
		t.Errorf("Take(1) = %d, %v", line, there)
	}
	wantValue(t, m, 1, 7, waiting, regs(), bits(31))
}

// TestWaitingIsNoCode: all lines of one cell can wait, whatever number that is.
func TestWaitingIsNoCode(t *testing.T) {
	g := three()
	g.Cells[1].Lines, g.Cells[0].Lines = nil, nil
	for line := range api.Lines {
		g.Cells[0].Lines = append(g.Cells[0].Lines, line)
	}
	m := booted(t, g)
	for line := range api.Lines {
		m.Gic.Raise(line)
	}
	wantValue(t, m, 1, 7, waiting, regs(), 1<<32-1)
	wantValue(t, m, 2, 7, waiting, regs(), 0)
}
