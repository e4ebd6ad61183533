package gic_test

import (
	"iter"
	"slices"
	"testing"

	"cloister/api"
	"cloister/gic"
)

// collect is what is told, the first n of it.
func collect(told iter.Seq[int], n int) []int {
	var l []int
	for line := range told {
		l = append(l, line)
		if len(l) == n {
			break
		}
	}
	return l
}

func wantTold(t *testing.T, what string, got []int, want ...int) {
	t.Helper()
	if !slices.Equal(got, want) {
		t.Errorf("%s: told is %v, want %v", what, got, want)
	}
}

func wantLines(t *testing.T, g *gic.Gic, cell int, want ...int) {
	t.Helper()
	before := g.State()
	wantTold(t, "Lines", collect(g.Lines(cell), 99), want...)
	wantState(t, "Lines", g, before)
}

// upTo are the numbers from 0 on below n.
func upTo(n int) []int {
	l := make([]int, n)
	for i := range l {
		l[i] = i
	}
	return l
}

func TestLines(t *testing.T) {
	wantLines(t, gic.New(), 0, upTo(lines)...)
	g := shared(t) // masked, pending or neither: all are told
	for cell := range cells + 1 {
		var want []int
		for line := cell; line < lines; line += 9 {
			want = append(want, line)
		}
		wantLines(t, g, cell, want...)
		g.Clear(cell)
		g.Mask(cell, all)
		wantLines(t, g, cell, want...)
	}
	g = gic.New()
	for line := range lines {
		wantRoute(t, g, lines-1-line, 5, api.OK) // the highest is routed first
	}
	wantLines(t, g, 5, upTo(lines)...)
	wantLines(t, g, 0)
	wantLines(t, g, 4)
}

func TestLinesOfNoCell(t *testing.T) {
	for _, g := range []*gic.Gic{gic.New(), shared(t)} {
		for _, cell := range append(noCells(), 0, 1, cells) {
			if g.Lines(cell) == nil {
				t.Errorf("Lines(%d) is nil", cell)
			}
		}
		for _, cell := range noCells() {
			wantLines(t, g, cell)
		}
	}
}

func TestLinesLeftEarly(t *testing.T) {
	g := routes(t, 1, 2, 1, 1, 0, 1)
	told := g.Lines(1)
	for n := 1; n <= 4; n++ {
		wantTold(t, "left early", collect(told, n), []int{0, 2, 3, 5}[:n]...)
	}
	wantTold(t, "ranged over again", collect(told, 9), 0, 2, 3, 5)
	told(func(int) bool { return false })
}

// TestLinesWithin: ranged over within a range of itself.
func TestLinesWithin(t *testing.T) {
	told := routes(t, 1, 2, 1, 1, 0, 1).Lines(1)
	var got []int
	for line := range told {
		wantTold(t, "within", collect(told, 9), 0, 2, 3, 5)
		wantTold(t, "within, left early", collect(told, 2), 0, 2)
		got = append(got, line)
	}
	wantTold(t, "around", got, 0, 2, 3, 5)
}

// TestLinesSide: two that are pulled by turns.
func TestLinesSide(t *testing.T) {
	told := routes(t, 1, 2, 1, 1, 0, 1).Lines(1)
	next, stop := iter.Pull(told)
	defer stop()
	other, stopOther := iter.Pull(told)
	defer stopOther()
	for _, want := range []int{0, 2, 3, 5} {
		a, ok := next()
		b, is := other()
		if a != want || b != want || !ok || !is {
			t.Errorf("told is %d and %d, want %d", a, b, want)
		}
	}
	if _, ok := next(); ok {
		t.Errorf("more than all is told")
	}
}

// doings are all that can be done meanwhile.
func doings() map[string]func(*gic.Gic) {
	return map[string]func(*gic.Gic){
		"Route here":   func(g *gic.Gic) { g.Route(4, 1) },
		"Route away":   func(g *gic.Gic) { g.Route(3, 2) },
		"Route nobody": func(g *gic.Gic) { g.Route(5, 0) },
		"Route first":  func(g *gic.Gic) { g.Route(0, 8) },
		"Raise":        func(g *gic.Gic) { g.Raise(3) },
		"Mask":         func(g *gic.Gic) { g.Mask(1, all) },
		"Clear":        func(g *gic.Gic) { g.Clear(1) },
		"Load":         func(g *gic.Gic) { g.Load(api.GicState{}) },
		"Load another": func(g *gic.Gic) { g.Load(api.GicState{Route: [lines]int{2: 1, 31: 1}}) },
	}
}

// TestLinesMeanwhile: what is done while it is ranged over is not seen there,
// but by whoever begins to range over it behind that.
func TestLinesMeanwhile(t *testing.T) {
	for what, do := range doings() {
		for at := range 4 {
			g, h := routes(t, 1, 2, 1, 1, 0, 1), routes(t, 1, 2, 1, 1, 0, 1)
			do(h)
			told := g.Lines(1)
			var got []int
			for line := range told {
				got = append(got, line)
				if len(got) == at+1 {
					do(g)
					wantTold(t, what+" within", collect(told, 99), collect(h.Lines(1), 99)...)
				}
			}
			wantTold(t, what, got, 0, 2, 3, 5)
			wantState(t, what, g, h.State())
		}
	}
}

// TestLinesBegins: what is done ahead of the range is seen, though Lines was
// asked for earlier.
func TestLinesBegins(t *testing.T) {
	for what, do := range doings() {
		g, h := routes(t, 1, 2, 1, 1, 0, 1), routes(t, 1, 2, 1, 1, 0, 1)
		told := g.Lines(1)
		do(g)
		do(h)
		wantTold(t, what, collect(told, 99), collect(h.Lines(1), 99)...)
	}
}
