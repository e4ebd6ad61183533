package valid_test

import (
	"testing"

	"cloister/api"
	"cloister/valid"
)

// good is a configuration that may be, in which nothing is left over: its
// memory has no page that is nobody's, the monitor has just the pages that it
// needs, and the first three windows are as short as may be. The addresses of
// its cells overlap.
func good() api.Config {
	const page = api.PageSize
	return api.Config{
		Pages: 40, OwnBase: 7 * page, OwnPages: 11,
		Shape: api.Shape{Sets: 4, Ways: 2, Line: 32}, Slots: 8, Major: 20000,
		Cells: []api.Cell{
			{Name: "alpha", Entry: 0x1008, Lines: []int{0, 7}, Ranges: []api.Range{
				{Virtual: 0x1000, Physical: 0, Pages: 2, Perm: api.Read | api.Exec},
				{Virtual: 0x3ff000, Physical: 5 * page, Pages: 2, Perm: api.Read | api.Write},
			}},
			{Name: "Beta2", Entry: 0x2000, Ranges: []api.Range{{Virtual: 0x2000, Physical: 2 * page, Pages: 1, Perm: api.Exec}}},
			{Name: "c", Entry: 0x80001ffc, Lines: []int{31, 1, 30}, Ranges: []api.Range{
				{Virtual: 0x80000000, Physical: 3 * page, Pages: 2, Perm: api.Read | api.Write | api.Exec},
				{Virtual: 0, Physical: 18 * page, Pages: 22, Perm: api.Read},
			}},
		},
		Windows: []api.Window{
			{Cell: 1, Start: 0, Length: 1191},
			{Cell: 2, Start: 1191, Length: 4283},
			{Cell: 3, Start: 6000, Length: 4029},
			{Cell: 1, Start: 10029, Length: 5000},
			{Cell: 2, Start: 15100, Length: 4900},
		},
		Samples: []api.Sample{
			{Writer: 1, Size: 64, Readers: []int{2, 3}},
			{Writer: 3, Size: 4, Readers: []int{1}},
		},
		Queues: []api.Queue{
			{Writer: 1, Reader: 2, Size: 8, Depth: 3, Quota: 16, Flow: true},
			{Writer: 2, Reader: 3, Size: 256, Depth: 32, Quota: 2},
		},
	}
}

// roomy is good with more memory, more of it the monitor's, and one window so
// long that any ports may be.
func roomy() api.Config {
	g := good()
	g.Pages, g.OwnBase, g.OwnPages, g.Major = api.MaxPages, 100*api.PageSize, 1000, api.MaxMajor
	g.Windows = []api.Window{{Cell: 1, Length: 1 << 30}}
	return g
}

// crowd has so many cells, each with a page and a window, and no ports.
func crowd(n int) api.Config {
	g := api.Config{Pages: 100, OwnBase: 50 * api.PageSize, OwnPages: 50, Shape: api.Shape{Sets: 1, Ways: 1, Line: 16}, Slots: 1, Major: 10000}
	for i := range n {
		r := api.Range{Physical: uint32(i) * api.PageSize, Pages: 1, Perm: api.Exec}
		g.Cells = append(g.Cells, api.Cell{Name: string(rune('a' + i)), Ranges: []api.Range{r}})
		g.Windows = append(g.Windows, api.Window{Cell: i + 1, Start: uint64(i) * 1000, Length: 1000})
	}
	return g
}

func wantCheck(t *testing.T, what string, g api.Config, want api.Errno, place int) {
	t.Helper()
	if e, n := valid.Check(g); e != want || n != place {
		t.Errorf("%s: Check = %d, %d, want %d, %d", what, e, n, want, place)
	}
}

// change is what is done to a configuration, and what Check says then.
type change struct {
	what  string
	do    func(g *api.Config)
	want  api.Errno
	place int
}

func wantChanges(t *testing.T, from func() api.Config, all []change) {
	t.Helper()
	wantCheck(t, "as it was", from(), api.OK, 0)
	for _, c := range all {
		g := from()
		c.do(&g)
		wantCheck(t, c.what, g, c.want, c.place)
	}
}

func TestGood(t *testing.T) {
	g := good()
	wantCheck(t, "good", g, api.OK, 0)
	for cell, want := range map[int][2]uint64{1: {1031, 160}, 2: {3911, 372}, 3: {3911, 118}} {
		if step, end := valid.MaxStep(g, cell), valid.Switch(g, cell); step != want[0] || end != want[1] {
			t.Errorf("cell %d: MaxStep = %d, Switch = %d, want %d", cell, step, end, want)
		}
	}
	if n := valid.Need(g); n != 11 {
		t.Errorf("Need = %d", n)
	}
}

func TestConfigurationOfNothing(t *testing.T) {
	wantCheck(t, "nothing", api.Config{}, api.ErrValidMachine, 0)
	if n := valid.Need(api.Config{}); n != 0 {
		t.Errorf("Need = %d", n)
	}
}

func TestExamples(t *testing.T) {
	g := crowd(2)
	g.Shape = api.Shape{Sets: 4, Ways: 2, Line: 16}
	if step, end := valid.MaxStep(g, 2), valid.Switch(g, 2); step != 121 || end != 116 {
		t.Errorf("MaxStep = %d, Switch = %d", step, end)
	}
	g.Samples = []api.Sample{{Writer: 1, Size: 64, Readers: []int{2}}}
	if step := valid.MaxStep(g, 2); step != 1031 {
		t.Errorf("MaxStep = %d", step)
	}
	g = crowd(2)
	g.Cells[1].Name = "a"
	wantCheck(t, "two of one name", g, api.ErrValidCell, 2)
	g = crowd(2)
	g.Windows[1].Cell = 3
	wantCheck(t, "a window of cell 3 of two", g, api.ErrValidWindow, 1)
}

func TestErrorNumbers(t *testing.T) {
	got := []api.Errno{
		api.ErrValidMachine, api.ErrValidCell, api.ErrValidRange, api.ErrValidMeet, api.ErrValidLine,
		api.ErrValidSample, api.ErrValidQueue, api.ErrValidRoom, api.ErrValidWindow, api.ErrValidBudget,
	}
	for i, e := range got {
		if e != api.Errno(140+i) {
			t.Errorf("error %d has the number %d, want %d", i, e, 140+i)
		}
	}
}

// breaks are changes by each of which one rule is broken, in the rules' order;
// none hangs on another.
func breaks() []change {
	return []change{
		{"no slots", func(g *api.Config) { g.Slots = 0 }, api.ErrValidMachine, 0},
		{"no name", func(g *api.Config) { g.Cells[2].Name = "" }, api.ErrValidCell, 3},
		{"an entry between words", func(g *api.Config) { g.Cells[1].Entry = 0x2002 }, api.ErrValidRange, 2},
		{"pages of the monitor", func(g *api.Config) { g.Cells[2].Ranges[1].Physical = 16 * api.PageSize }, api.ErrValidMeet, 3},
		{"line 32", func(g *api.Config) { g.Cells[0].Lines[1] = 32 }, api.ErrValidLine, 1},
		{"a size of 6", func(g *api.Config) { g.Samples[1].Size = 6 }, api.ErrValidSample, 1},
		{"no quota", func(g *api.Config) { g.Queues[1].Quota = 0 }, api.ErrValidQueue, 1},
		{"a page too few", func(g *api.Config) { g.OwnPages = 10 }, api.ErrValidRoom, 0},
		{"a window of no ticks", func(g *api.Config) { g.Windows[2].Length = 0 }, api.ErrValidWindow, 2},
		{"a tick too few", func(g *api.Config) { g.Windows[0].Length-- }, api.ErrValidBudget, 0},
	}
}

// TestFirstOfSeveral: whichever rules are broken, the first one is told.
func TestFirstOfSeveral(t *testing.T) {
	all := breaks()
	for set := 1; set < 1<<len(all); set++ {
		g := good()
		var first change
		for i := len(all) - 1; i >= 0; i-- {
			if set>>i&1 == 1 {
				all[i].do(&g)
				first = all[i]
			}
		}
		wantCheck(t, first.what, g, first.want, first.place)
	}
}
