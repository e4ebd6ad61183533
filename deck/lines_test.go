package deck_test

import (
	"strings"
	"testing"

	"cloister/api"
)

// ab are two cells of these names, with what is said of them by others.
func ab(change func(g *api.Config)) api.Config {
	g := api.Config{Cells: []api.Cell{{Name: "a", Entry: 0}, {Name: "b", Entry: 4}}}
	change(&g)
	return g
}

const abLines = "cell a 0\ncell b 4\n"

// TestLines: each line of the table, read as what it says.
func TestLines(t *testing.T) {
	for s, change := range map[string]func(g *api.Config){
		"pages 4":        func(g *api.Config) { g.Pages = 4 },
		"pages 0":        func(g *api.Config) {},
		"own 0x1000 8":   func(g *api.Config) { g.OwnBase, g.OwnPages = 4096, 8 },
		"own 4097 0x8":   func(g *api.Config) { g.OwnBase, g.OwnPages = 4097, 8 },
		"cache 4 2 32":   func(g *api.Config) { g.Shape = api.Shape{Sets: 4, Ways: 2, Line: 32} },
		"tlb 16":         func(g *api.Config) { g.Slots = 16 },
		"major 10000":    func(g *api.Config) { g.Major = 10000 },
		"cell c 9":       func(g *api.Config) { g.Cells = append(g.Cells, api.Cell{Name: "c", Entry: 9}) },
		"cell 0x1 0x1":   func(g *api.Config) { g.Cells = append(g.Cells, api.Cell{Name: "0x1", Entry: 1}) },
		"range 1 2 3 rx": func(g *api.Config) { g.Cells[1].Ranges = []api.Range{{Virtual: 1, Physical: 2, Pages: 3, Perm: 5}} },
		"lines 7":        func(g *api.Config) { g.Cells[1].Lines = []int{7} },
		"lines 7 3 7 99": func(g *api.Config) { g.Cells[1].Lines = []int{7, 3, 7, 99} },
		"window a 5 6":   func(g *api.Config) { g.Windows = []api.Window{{Cell: 1, Start: 5, Length: 6}} },
		"window b 0 0":   func(g *api.Config) { g.Windows = []api.Window{{Cell: 2}} },
		"sample a 64 b":  func(g *api.Config) { g.Samples = []api.Sample{{Writer: 1, Size: 64, Readers: []int{2}}} },
		"sample b 0":     func(g *api.Config) { g.Samples = []api.Sample{{Writer: 2}} },
		"sample b 1 b a b": func(g *api.Config) {
			g.Samples = []api.Sample{{Writer: 2, Size: 1, Readers: []int{2, 1, 2}}}
		},
		"queue a b 8 3 2 flow": func(g *api.Config) {
			g.Queues = []api.Queue{{Writer: 1, Reader: 2, Size: 8, Depth: 3, Quota: 2, Flow: true}}
		},
		"queue b b 0 1 9 oneway": func(g *api.Config) { g.Queues = []api.Queue{{Writer: 2, Reader: 2, Depth: 1, Quota: 9}} },
	} {
		wantParse(t, abLines+s, ab(change))
		wantParse(t, abLines+"\t "+strings.ReplaceAll(s, " ", " \t\t ")+" \t#"+s+"#", ab(change))
	}
}

// TestLoads: what data and more say; other lines may stand between.
func TestLoads(t *testing.T) {
	for s, want := range map[string][]api.Load{
		"data a 5":                                     {{Cell: 1, At: 5}},
		"data b 0xffffffff 00":                         {{Cell: 2, At: 0xffffffff, Data: []byte{0}}},
		"data a 5 0102 ff 0a0b0c":                      {{Cell: 1, At: 5, Data: []byte{1, 2, 255, 10, 11, 12}}},
		"data a 5 # 01":                                {{Cell: 1, At: 5}},
		"data a 5\nmore 7f":                            {{Cell: 1, At: 5, Data: []byte{0x7f}}},
		"data a 5 80\nmore 01 0203\nmore 04":           {{Cell: 1, At: 5, Data: []byte{128, 1, 2, 3, 4}}},
		"data a 5 01\ndata b 6 02\nmore 03":            {{Cell: 1, At: 5, Data: []byte{1}}, {Cell: 2, At: 6, Data: []byte{2, 3}}},
		"data a 5 01\npages 0\ntlb 0\n\n#\nmore 02":    {{Cell: 1, At: 5, Data: []byte{1, 2}}},
		"data a 5 01\ndata a 5 01":                     {{Cell: 1, At: 5, Data: []byte{1}}, {Cell: 1, At: 5, Data: []byte{1}}},
		"code a\nend\ndata b 0\nmore 09":               {{Cell: 1}, {Cell: 2, Data: []byte{9}}},
		"data b 4294967295 " + strings.Repeat("5a", 9): {{Cell: 2, At: 1<<32 - 1, Data: []byte(strings.Repeat("Z", 9))}},
	} {
		wantParse(t, abLines+s, ab(func(*api.Config) {}), want...)
	}
}

// TestOrder: cells have the numbers of their places; what belongs to a cell
// belongs to the last one above; all lists are in the order of their lines.
func TestOrder(t *testing.T) {
	wantParse(t, lines("cell b 0", "lines 1", "range 0 0 0 r", "cell a 0", "window b 1 1", "range 1 0 0 w", "lines 2 3", "window a 2 2", "cell c 0",
		"queue c a 1 1 1 flow", "lines 4", "sample c 2", "lines 5", "range 2 0 0 x", "sample b 1 a", "range 3 0 0 -", "queue a c 2 2 2 oneway", "window b 3 3", "pages 3", "major 9"),
		api.Config{
			Pages: 3, Major: 9,
			Cells: []api.Cell{
				{Name: "b", Lines: []int{1}, Ranges: []api.Range{{Perm: 1}}},
				{Name: "a", Lines: []int{2, 3}, Ranges: []api.Range{{Virtual: 1, Perm: 2}}},
				{Name: "c", Lines: []int{4, 5}, Ranges: []api.Range{{Virtual: 2, Perm: 4}, {Virtual: 3}}},
			},
			Windows: []api.Window{{Cell: 1, Start: 1, Length: 1}, {Cell: 2, Start: 2, Length: 2}, {Cell: 1, Start: 3, Length: 3}},
			Samples: []api.Sample{{Writer: 3, Size: 2}, {Writer: 1, Size: 1, Readers: []int{2}}},
			Queues:  []api.Queue{{Writer: 3, Reader: 2, Size: 1, Depth: 1, Quota: 1, Flow: true}, {Writer: 2, Reader: 3, Size: 2, Depth: 2, Quota: 2}},
		})
}

// goodLines have as few words as they may, but for `more`, which is asked apart.
var goodLines = []string{
	"pages 1", "own 1 1", "cache 1 1 1", "tlb 1", "major 1", "cell c 1", "range 1 1 1 r", "lines 1", "window a 1 1", "sample a 1", "queue a b 1 1 1 flow", "data a 1", "more 01", "code a",
}

// TestHowManyWords: fewer are too few, and more too many, if there may not be
// any number of them.
func TestHowManyWords(t *testing.T) {
	const ahead = abLines + "data a 0\n"
	any := map[string]string{"lines": " 1", "sample": " b", "data": " 01", "more": " 01"}
	for _, s := range goodLines {
		words := strings.Fields(s)
		behind := "\nend"
		if words[0] != "code" {
			behind = ""
		}
		wantRead(t, ahead+s+behind)
		for n := 1; n < len(words); n++ {
			wantWrong(t, ahead+strings.Join(words[:n], " ")+behind, api.ErrDeckSyntax, 4)
		}
		if more, ok := any[words[0]]; ok {
			wantRead(t, ahead+s+strings.Repeat(more, 300))
			continue
		}
		for _, more := range []string{" 1", " a", " r", " flow", " 01 01"} {
			wantWrong(t, ahead+s+more+behind, api.ErrDeckSyntax, 4)
		}
	}
}

// TestFirstWords: nothing else begins a line, and each of them is written just
// so.
func TestFirstWords(t *testing.T) {
	for _, s := range []string{"what", "end", "Pages 4", "PAGES 4", "page 4", "pagess 4", "pages4", "pages=4", "4 pages", "4", "-", "0x", "line 1", "Cell c 0", "cells c 0", "windows a 0 0", "flow", "oneway", "%%", "!", "~", "a", "r", "pages: 4", ".word 1", "nop"} {
		wantWrong(t, s, api.ErrDeckSyntax, 1)
		wantWrong(t, "\n# x\n"+s, api.ErrDeckSyntax, 3)
		wantWrong(t, abLines+s+"\nwhat", api.ErrDeckSyntax, 3)
	}
}
