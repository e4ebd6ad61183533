package gic_test

import (
	"math/rand"
	"testing"

	"cloister/api"
	"cloister/gic"
)

// model is what a controller is, in plain words: a list of lines.
type model [lines]struct {
	cell            int
	pending, masked bool
}

func (m *model) of(cell int) (own, waiting []int, masked uint32) {
	for line, l := range m {
		if l.cell != cell {
			continue
		}
		own = append(own, line)
		if l.pending && !l.masked {
			waiting = append(waiting, line)
		}
		if l.masked {
			masked += 1 << line
		}
	}
	return own, waiting, masked
}

func (m *model) state() api.GicState {
	var s api.GicState
	for line, l := range m {
		s.Route[line] = l.cell
		if l.pending {
			s.Pending += 1 << line
		}
		if l.masked {
			s.Masked += 1 << line
		}
	}
	return s
}

func (m *model) raise(line int) bool {
	l := &m[line]
	if l.cell == 0 || l.pending {
		return false
	}
	l.pending = true
	return true
}

func (m *model) mask(cell int, set uint32) {
	for line := range m {
		if l := &m[line]; l.cell == cell && cell != 0 {
			l.masked = set>>line%2 == 1
		}
	}
}

// change does one thing to both, and holds the answers against each other.
func (m *model) change(t *testing.T, random *rand.Rand, g *gic.Gic) {
	t.Helper()
	line, cell := random.Intn(lines), random.Intn(cells+1)
	l := &m[line]
	switch random.Intn(8) {
	case 0:
		wantRoute(t, g, line, cell, api.OK)
		if l.cell != cell {
			l.cell, l.pending, l.masked = cell, false, false
		}
	case 1, 2, 3:
		wantRaise(t, g, line, m.raise(line), api.OK)
	case 4:
		set := random.Uint32()
		g.Mask(cell, set)
		m.mask(cell, set)
	case 5, 6:
		if _, waiting, _ := m.of(cell); len(waiting) > 0 {
			wantTake(t, g, cell, waiting[0])
			m[waiting[0]].pending = false
		} else {
			wantNone(t, g, cell)
		}
	default:
		g.Clear(cell)
		for line := range m {
			if l := &m[line]; l.cell == cell {
				l.pending = false
			}
		}
	}
}

func (m *model) hold(t *testing.T, g *gic.Gic) {
	t.Helper()
	for cell := range cells + 1 {
		own, waiting, masked := m.of(cell)
		var set uint32
		for _, line := range waiting {
			set += 1 << line
		}
		wantSets(t, g, cell, set, masked)
		wantLines(t, g, cell, own...)
		if len(waiting) > 0 {
			wantNext(t, g, cell, waiting[0])
		} else {
			wantNone(t, g, cell)
		}
	}
	wantState(t, "in any order", g, m.state())
}

// TestAnyOrder: whatever is done in whichever order, a controller is as its
// model says; and one into which its state is loaded goes on as it does.
func TestAnyOrder(t *testing.T) {
	for seed := range int64(40) {
		random := rand.New(rand.NewSource(seed))
		g, m := gic.New(), &model{}
		for range 300 {
			m.change(t, random, g)
			m.hold(t, g)
			if random.Intn(10) == 0 {
				other := gic.New()
				wantLoad(t, other, g.State(), api.OK)
				g = other
			}
		}
	}
}

// TestLoadedTellsTheSame: what is loaded tells what was told, from then on.
func TestLoadedTellsTheSame(t *testing.T) {
	for seed := range int64(40) {
		random := rand.New(rand.NewSource(seed))
		g, m := gic.New(), &model{}
		for range random.Intn(200) {
			m.change(t, random, g)
		}
		h, n := shared(t), *m
		wantLoad(t, h, g.State(), api.OK)
		again := random.Int63()
		one, two := rand.New(rand.NewSource(again)), rand.New(rand.NewSource(again))
		for range 100 {
			m.change(t, one, g)
			n.change(t, two, h)
			wantState(t, "loaded", h, g.State())
		}
		n.hold(t, h)
	}
}

// others does something to the lines and masks of all but cell 1, which has the
// even lines.
func others(random *rand.Rand, g *gic.Gic) {
	line, cell := 1+2*random.Intn(lines/2), 2+random.Intn(cells-1)
	switch random.Intn(6) {
	case 0:
		g.Raise(line)
	case 1:
		g.Mask(cell, random.Uint32())
	case 2:
		g.Take(cell)
	case 3:
		g.Clear(cell)
	case 4:
		g.Route(line, cell*random.Intn(2))
	default:
		g.Mask(0, random.Uint32())
		g.Clear(0)
		g.Route(line, cells+cell)
		g.Raise(lines + line)
	}
}

// answer is all that is told of cell 1.
type answer struct {
	line            int
	there           bool
	waiting, masked uint32
	next            int
	any             bool
	own             [lines]bool
}

// ask does one of the things that can be done to cell 1.
func ask(g *gic.Gic, what, line int, set uint32) answer {
	var a answer
	switch what {
	case 0:
		a.there, _ = g.Raise(line)
	case 1:
		g.Mask(1, set)
	case 2:
		a.line, a.there = g.Take(1)
	case 3:
		g.Clear(1)
	}
	a.waiting, a.masked = g.Waiting(1), g.Masked(1)
	a.next, a.any = g.Next(1)
	for line := range g.Lines(1) {
		a.own[line] = true
	}
	return a
}

// TestOthersDoNotShow: what is asked of a cell, and what is answered to it,
// hangs on its own lines alone.
func TestOthersDoNotShow(t *testing.T) {
	for seed := range int64(40) {
		random := rand.New(rand.NewSource(seed))
		alone, among := gic.New(), gic.New()
		for line := 0; line < lines; line += 2 {
			wantRoute(t, alone, line, 1, api.OK)
			wantRoute(t, among, line, 1, api.OK)
		}
		for range 300 {
			for range random.Intn(4) {
				others(random, among)
			}
			what, line, set := random.Intn(4), 2*random.Intn(lines/2), random.Uint32()
			want, got := ask(alone, what, line, set), ask(among, what, line, set)
			if got != want {
				t.Fatalf("seed %d: told is %v, want %v", seed, got, want)
			}
		}
	}
}

// TestRaisedOnce: between two Takes of a line, without a Clear, a Route or a
// Load between them, it is raised with true once, just.
func TestRaisedOnce(t *testing.T) {
	for seed := range int64(40) {
		random := rand.New(rand.NewSource(seed))
		g, raised := gic.New(), [lines]int{}
		for line := range lines {
			wantRoute(t, g, line, 1+random.Intn(cells), api.OK)
		}
		takes := 0
		for range 2000 {
			line, cell := random.Intn(lines), 1+random.Intn(cells)
			switch random.Intn(6) {
			case 0:
				g.Mask(cell, random.Uint32())
			case 1, 2:
				if n, ok := g.Take(cell); ok {
					if raised[n] != 1 {
						t.Fatalf("seed %d: line %d was raised %d times", seed, n, raised[n])
					}
					raised[n] = 0
					takes++
				}
			default:
				if ok, _ := g.Raise(line); ok {
					raised[line]++
				}
			}
		}
		if takes < 100 {
			t.Errorf("seed %d: %d were taken", seed, takes)
		}
	}
}
