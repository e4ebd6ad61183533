package valid_test

import (
	"math"
	"slices"
	"strings"
	"testing"

	"cloister/api"
)

func TestHowManyCells(t *testing.T) {
	for n := 1; n <= 8; n++ {
		wantCheck(t, "cells", crowd(n), api.OK, 0)
	}
	for _, n := range []int{0, 9, 10, 255, 300} {
		wantCheck(t, "too many cells, or none", crowd(n), api.ErrValidCell, 0)
	}
	g := crowd(1)
	g.Cells = make([]api.Cell, 9)
	wantCheck(t, "too many cells of nothing", g, api.ErrValidCell, 0)
	g.Cells = make([]api.Cell, 8)
	wantCheck(t, "cells of nothing", g, api.ErrValidCell, 1)
}

func TestNames(t *testing.T) {
	const signs = "abcdefghijklmnopqrstuvwxyzABCDEFGHIJKLMNOPQRSTUVWXYZ0123456789"
	named := func(name string, want api.Errno) {
		t.Helper()
		for i := range 3 {
			g := good()
			g.Cells[0].Name, g.Cells[1].Name, g.Cells[2].Name = "x1", "y1", "z1"
			g.Cells[i].Name = name
			wantCheck(t, name, g, want, map[api.Errno]int{api.ErrValidCell: i + 1}[want])
		}
	}
	for b := range 256 {
		one := string([]byte{byte(b)})
		want := api.ErrValidCell
		if strings.Contains(signs, one) && b < 128 {
			want = api.OK
		}
		named(one, want)
		named("a"+one, want)
		named(one+"9", want)
		named("aaaaaaaa"+one+"aaaaaaa", want)
	}
	for n := range 40 {
		want := api.OK
		if n < 1 || n > 16 {
			want = api.ErrValidCell
		}
		named(strings.Repeat("n", n), want)
	}
	for _, s := range []string{"ä", "aä", "日", "\u0661", "\uff21", "a\xc3", "Ⅷ", "\u017f", "\u212a"} {
		named(s, api.ErrValidCell)
	}
}

func TestNamesOfSeveral(t *testing.T) {
	for _, c := range []struct {
		names string
		want  api.Errno
		place int
	}{
		{"a b c", api.OK, 0},
		{"a A b", api.OK, 0},
		{"a aa aaa", api.OK, 0},
		{"a a b", api.ErrValidCell, 2},
		{"a b a", api.ErrValidCell, 3},
		{"a b b", api.ErrValidCell, 3},
		{"a a a", api.ErrValidCell, 2},
		{"- - b", api.ErrValidCell, 1},
		{"a - a", api.ErrValidCell, 2},
	} {
		g := good()
		for i, name := range strings.Fields(c.names) {
			g.Cells[i].Name = name
		}
		wantCheck(t, c.names, g, c.want, c.place)
	}
}

func TestHowManyRanges(t *testing.T) {
	for n := range 20 {
		for cell := range 3 {
			g := crowd(3)
			g.Cells[cell].Ranges = nil
			for i := range uint32(n) {
				r := api.Range{Virtual: i * api.PageSize, Physical: (10 + i) * api.PageSize, Pages: 1, Perm: api.Exec}
				g.Cells[cell].Ranges = append(g.Cells[cell].Ranges, r)
			}
			if n >= 1 && n <= 8 {
				wantCheck(t, "ranges", g, api.OK, 0)
			} else {
				wantCheck(t, "too many ranges, or none", g, api.ErrValidCell, cell+1)
			}
		}
	}
}

func TestCellsAheadOfRanges(t *testing.T) {
	wantChanges(t, good, []change{
		{"no ranges, and a name behind", func(g *api.Config) { g.Cells[0].Ranges = nil; g.Cells[1].Name = "" }, api.ErrValidCell, 1},
		{"a name, and no ranges behind", func(g *api.Config) { g.Cells[1].Name = ""; g.Cells[2].Ranges = nil }, api.ErrValidCell, 2},
		{"a range ahead of a name", func(g *api.Config) { g.Cells[0].Ranges[0].Pages = 0; g.Cells[2].Name = "" }, api.ErrValidCell, 3},
		{"a range of no cell's", func(g *api.Config) { g.Cells[0].Ranges[0].Pages = 0; g.Cells = append(g.Cells, g.Cells[0]) }, api.ErrValidCell, 4},
	})
}

func TestRangesThatMayNotBe(t *testing.T) {
	const page = api.PageSize
	for i, r := range []api.Range{
		{Virtual: 0x5001, Physical: 50 * page, Pages: 1, Perm: api.Read},
		{Virtual: 0x5800, Physical: 50 * page, Pages: 1, Perm: api.Read},
		{Virtual: 0x5000, Physical: 50*page + 1, Pages: 1, Perm: api.Read},
		{Virtual: 0x5000, Physical: 50*page + 2048, Pages: 1, Perm: api.Read},
		{Virtual: 0x5000, Physical: 50 * page, Pages: 0, Perm: api.Read},
		{Virtual: 0x5000, Physical: 50 * page, Pages: -1, Perm: api.Read},
		{Virtual: 0x5000, Physical: 50 * page, Pages: math.MinInt, Perm: api.Read},
		{Virtual: 0x5000, Physical: 50 * page, Pages: math.MaxInt, Perm: api.Read},
		{Virtual: 0x5000, Physical: 50 * page, Pages: 1<<32 + 1, Perm: api.Read},
		{Virtual: 0x5000, Physical: 50 * page, Pages: 1 << 52, Perm: api.Read},
		{Virtual: 0x5000, Physical: 50 * page, Pages: 1, Perm: 0},
		{Virtual: 0x5000, Physical: 50 * page, Pages: 1, Perm: api.Write},
		{Virtual: 0x5000, Physical: 50 * page, Pages: 1, Perm: api.Write | api.Exec},
		{Virtual: 0x5000, Physical: 50 * page, Pages: 1, Perm: 8},
		{Virtual: 0x5000, Physical: 50 * page, Pages: 1, Perm: 8 | api.Read},
		{Virtual: 0x5000, Physical: 50 * page, Pages: 1, Perm: 255},
		{Virtual: 0xfffff000, Physical: 50 * page, Pages: 2, Perm: api.Read},
		{Virtual: 0xffffe000, Physical: 50 * page, Pages: 3, Perm: api.Read},
		{Virtual: 0x5000, Physical: 4096 * page, Pages: 1, Perm: api.Read},
		{Virtual: 0x5000, Physical: 4095 * page, Pages: 2, Perm: api.Read},
		{Virtual: 0x5000, Physical: 0xfffff000, Pages: 1, Perm: api.Read},
		{Virtual: 0x5000, Physical: 0xfffff000, Pages: 2, Perm: api.Read},
	} {
		for cell := range 3 {
			g := roomy()
			g.Cells[cell].Ranges = append(g.Cells[cell].Ranges, r)
			wantCheck(t, "row "+string(rune('A'+i)), g, api.ErrValidRange, cell+1)
			g = roomy()
			g.Cells[cell].Ranges = slices.Insert(g.Cells[cell].Ranges, 0, r)
			wantCheck(t, "first, row "+string(rune('A'+i)), g, api.ErrValidRange, cell+1)
		}
	}
}

func TestRangesThatMayBe(t *testing.T) {
	const page = api.PageSize
	for i, r := range []api.Range{
		{Virtual: 0x500000, Physical: 50 * page, Pages: 1, Perm: api.Read},
		{Virtual: 0x500000, Physical: 50 * page, Pages: 50, Perm: api.Read | api.Write},
		{Virtual: 0x500000, Physical: 50 * page, Pages: 1, Perm: api.Exec},
		{Virtual: 0x500000, Physical: 50 * page, Pages: 1, Perm: api.Read | api.Exec},
		{Virtual: 0x500000, Physical: 50 * page, Pages: 1, Perm: api.Read | api.Write | api.Exec},
		{Virtual: 0xfffff000, Physical: 50 * page, Pages: 1, Perm: api.Read},
		{Virtual: 0xffffe000, Physical: 50 * page, Pages: 2, Perm: api.Read},
		{Virtual: 0x500000, Physical: 4095 * page, Pages: 1, Perm: api.Read},
		{Virtual: 0x500000, Physical: 1100 * page, Pages: 2996, Perm: api.Read}, // to memory's end
	} {
		for cell := range 3 {
			g := roomy()
			g.Cells[cell].Ranges = append(g.Cells[cell].Ranges, r)
			wantCheck(t, "row "+string(rune('A'+i)), g, api.OK, 0)
		}
	}
}

func TestRangesBeyondPages(t *testing.T) {
	const page = api.PageSize
	wantChanges(t, good, []change{
		{"a page more", func(g *api.Config) { g.Cells[2].Ranges[1].Pages = 23 }, api.ErrValidRange, 3},
		{"a page later", func(g *api.Config) { g.Cells[2].Ranges[1].Physical += page }, api.ErrValidRange, 3},
		{"a page of memory less", func(g *api.Config) { g.Pages-- }, api.ErrValidRange, 3},
		{"a page of memory more", func(g *api.Config) { g.Pages++; g.Cells[2].Ranges[1].Pages++ }, api.OK, 0},
		{"behind the end", func(g *api.Config) { g.Cells[1].Ranges[0].Physical = 40 * page }, api.ErrValidRange, 2},
		{"far behind the end", func(g *api.Config) { g.Cells[1].Ranges[0].Physical = 4095 * page }, api.ErrValidRange, 2},
		{"the first of two", func(g *api.Config) { g.Cells[0].Ranges[0].Physical = 39 * page }, api.ErrValidRange, 1},
	})
}

// TestRangesOfOneAddress: pages of one cell's addresses that two ranges have;
// where they lie in memory does not matter.
func TestRangesOfOneAddress(t *testing.T) {
	const page = api.PageSize
	for _, c := range []struct {
		from  uint32
		pages int
		want  api.Errno
	}{
		{10, 10, api.ErrValidRange}, {10, 1, api.ErrValidRange}, {19, 1, api.ErrValidRange}, {15, 2, api.ErrValidRange},
		{9, 2, api.ErrValidRange}, {19, 5, api.ErrValidRange}, {5, 20, api.ErrValidRange}, {1, 10, api.ErrValidRange},
		{9, 1, api.OK}, {1, 9, api.OK}, {20, 1, api.OK}, {20, 10, api.OK}, {1034, 10, api.OK},
	} {
		for cell := range 3 {
			first := api.Range{Virtual: 0x90000000 + 10*page, Physical: 50 * page, Pages: 10, Perm: api.Read}
			second := api.Range{Virtual: 0x90000000 + c.from*page, Physical: 60 * page, Pages: c.pages, Perm: api.Read}
			g := roomy()
			g.Cells[cell].Ranges = append(g.Cells[cell].Ranges, first, second)
			wantCheck(t, "two ranges", g, c.want, map[api.Errno]int{api.ErrValidRange: cell + 1}[c.want])
			g = roomy()
			g.Cells[cell].Ranges = append(g.Cells[cell].Ranges, first)
			g.Cells[(cell+1)%3].Ranges = append(g.Cells[(cell+1)%3].Ranges, second)
			wantCheck(t, "ranges of two cells", g, api.OK, 0)
		}
	}
}

func TestEntry(t *testing.T) {
	for _, c := range []struct {
		cell  int
		entry uint32
		want  api.Errno
	}{
		{1, 0x1000, api.OK}, {1, 0x2ffc, api.OK}, {1, 0x2000, api.OK},
		{1, 0x1001, api.ErrValidRange}, {1, 0x1002, api.ErrValidRange}, {1, 0x1003, api.ErrValidRange}, {1, 0x2ffe, api.ErrValidRange},
		{1, 0xffc, api.ErrValidRange}, {1, 0x3000, api.ErrValidRange}, {1, 0, api.ErrValidRange}, {1, 0xfffffffc, api.ErrValidRange},
		{1, 0x3ff000, api.ErrValidRange}, // a range that has no Exec
		{2, 0x2ffc, api.OK}, {2, 0x3000, api.ErrValidRange}, {2, 0x1ffc, api.ErrValidRange},
		{3, 0x80000000, api.OK}, {3, 0x7ffffffc, api.ErrValidRange}, {3, 0x80002000, api.ErrValidRange}, {3, 0x1000, api.ErrValidRange},
	} {
		g := good()
		g.Cells[c.cell-1].Entry = c.entry
		wantCheck(t, "an entry", g, c.want, map[api.Errno]int{api.ErrValidRange: c.cell}[c.want])
	}
	wantChanges(t, good, []change{
		{"the second range has Exec", func(g *api.Config) { g.Cells[2].Entry, g.Cells[2].Ranges[1].Perm = 0x15ffc, api.Read|api.Exec }, api.OK, 0},
		{"just behind it", func(g *api.Config) { g.Cells[2].Entry, g.Cells[2].Ranges[1].Perm = 0x16000, api.Read|api.Exec }, api.ErrValidRange, 3},
		{"no range has Exec", func(g *api.Config) { g.Cells[1].Ranges[0].Perm = api.Read | api.Write }, api.ErrValidRange, 2},
		{"the last word of all", func(g *api.Config) { g.Cells[1].Entry, g.Cells[1].Ranges[0].Virtual = 0xfffffffc, 0xfffff000 }, api.OK, 0},
		{"the first word of all, which is behind the last one", func(g *api.Config) { g.Cells[1].Entry, g.Cells[1].Ranges[0].Virtual = 0, 0xfffff000 }, api.ErrValidRange, 2},
		{"a cell behind", func(g *api.Config) { g.Cells[1].Entry, g.Cells[2].Ranges[0].Pages = 1, 0 }, api.ErrValidRange, 2},
		{"a cell ahead", func(g *api.Config) { g.Cells[0].Ranges[1].Pages, g.Cells[1].Entry = 0, 1 }, api.ErrValidRange, 1},
	})
}

func TestMemoryThatTwoHave(t *testing.T) {
	const page = api.PageSize
	to := func(cell, r int, frame uint32) func(g *api.Config) {
		return func(g *api.Config) { g.Cells[cell].Ranges[r].Physical = frame * page }
	}
	wantChanges(t, good, []change{
		{"the monitor's first page", to(1, 0, 7), api.ErrValidMeet, 2},
		{"a page of the monitor's", to(1, 0, 11), api.ErrValidMeet, 2},
		{"the monitor's last page", to(1, 0, 17), api.ErrValidMeet, 2},
		{"into the monitor's pages", to(0, 1, 6), api.ErrValidMeet, 1},
		{"out of the monitor's pages", to(2, 1, 17), api.ErrValidMeet, 3},
		{"around the monitor's pages", to(2, 1, 3), api.ErrValidMeet, 3},
		{"a range of this cell", to(0, 1, 1), api.ErrValidMeet, 1},
		{"the same range of this cell", to(0, 1, 0), api.ErrValidMeet, 1},
		{"a range of a cell ahead, its first page", to(1, 0, 0), api.ErrValidMeet, 2},
		{"a range of a cell ahead, its last page", to(1, 0, 6), api.ErrValidMeet, 2},
		{"a range of a cell behind", to(0, 1, 2), api.ErrValidMeet, 2},
		{"a page of the last range", to(1, 0, 39), api.ErrValidMeet, 3},
		{"two that meet, the first one", func(g *api.Config) { to(0, 1, 18)(g); to(1, 0, 7)(g) }, api.ErrValidMeet, 2},
		{"they change places", func(g *api.Config) { to(1, 0, 0)(g); to(0, 0, 1)(g) }, api.OK, 0},
		{"a page of memory that is nobody's", func(g *api.Config) { g.Pages++; to(1, 0, 40)(g) }, api.OK, 0},
		{"the monitor a page earlier", func(g *api.Config) { g.OwnBase -= page }, api.ErrValidMeet, 1},
		{"the monitor a page later", func(g *api.Config) { g.OwnBase += page }, api.ErrValidMeet, 3},
	})
}

func TestLines(t *testing.T) {
	var all []int
	for i := range 32 {
		all = append(all, i)
	}
	of := func(one, two, three []int) func(g *api.Config) {
		return func(g *api.Config) {
			g.Cells[0].Lines, g.Cells[1].Lines, g.Cells[2].Lines = one, two, three
		}
	}
	wantChanges(t, good, []change{
		{"nobody's", of(nil, nil, nil), api.OK, 0},
		{"one cell's, all of them", of(nil, all, nil), api.OK, 0},
		{"all, of two cells", of(all[:16], nil, all[16:]), api.OK, 0},
		{"falling", of([]int{31, 30, 0}, []int{29}, []int{28, 1}), api.OK, 0},
		{"-1", of([]int{-1}, nil, nil), api.ErrValidLine, 1},
		{"32", of(nil, []int{32}, nil), api.ErrValidLine, 2},
		{"32 behind others", of(nil, nil, []int{1, 2, 32}), api.ErrValidLine, 3},
		{"the least number", of(nil, nil, []int{math.MinInt}), api.ErrValidLine, 3},
		{"the greatest number", of(nil, nil, []int{math.MaxInt}), api.ErrValidLine, 3},
		{"one of a byte's bits", of(nil, nil, []int{256}), api.ErrValidLine, 3},
		{"twice", of([]int{5, 5}, nil, nil), api.ErrValidLine, 1},
		{"twice, not side by side", of(nil, []int{5, 6, 7, 5}, nil), api.ErrValidLine, 2},
		{"one cell's, all of them, and one more", of(nil, append(all[:32:32], 0), nil), api.ErrValidLine, 2},
		{"of the cell ahead", of([]int{5}, []int{5}, nil), api.ErrValidLine, 2},
		{"of a cell further ahead", of([]int{5}, nil, []int{6, 5}), api.ErrValidLine, 3},
		{"of both cells behind", of([]int{5}, []int{5}, []int{5}), api.ErrValidLine, 2},
		{"the first cell of two", of(nil, []int{40}, []int{-1}), api.ErrValidLine, 2},
		{"the first cell of two, whose own is twice", of([]int{1, 1}, []int{40}, nil), api.ErrValidLine, 1},
	})
}
