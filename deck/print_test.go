package deck_test

import (
	"strings"
	"testing"

	"cloister/api"
	"cloister/deck"
)

// wholeText has each kind of line, and wholeThings are what it says.
const wholeText = "pages 64\nown 0x00001000 8\ncache 4 2 32\ntlb 16\nmajor 18446744073709551615\n" +
	"cell a 0x00400000\nrange 0x00400000 0x00010000 2 rx\nrange 0xffffffff 0xabcdef01 4294967295 rw\nlines 3 4294967295 0 3\n" +
	"cell B2 0xffffffff\n" +
	"cell 0123456789abcdeF 0x00000000\nrange 0x00000000 0x00000000 0 -\n" +
	"window B2 18446744073709551615 0\nwindow a 0 18446744073709551615\nwindow B2 7 5000\n" +
	"sample a 64 B2 a B2\nsample B2 0\nsample 0123456789abcdeF 4294967295 a\n" +
	"queue B2 a 8 3 2 flow\nqueue a a 0 0 0 oneway\nqueue a B2 4294967295 4294967294 4294967293 oneway\n" +
	"data B2 0x00000004\ndata a 0x00400000 000102030405060708090a0b0c0d0e0f\nmore 101112131415161718191a1b1c1d1e1f\nmore 20\ndata B2 0xffffffff ff\n"

func wholeThings() (api.Config, []api.Load) {
	const most = 1<<32 - 1
	g := api.Config{
		Pages: 64, OwnBase: 0x1000, OwnPages: 8, Shape: api.Shape{Sets: 4, Ways: 2, Line: 32}, Slots: 16, Major: 1<<64 - 1,
		Cells: []api.Cell{
			{Name: "a", Entry: 0x400000, Ranges: []api.Range{{Virtual: 0x400000, Physical: 0x10000, Pages: 2, Perm: 5}, {Virtual: most, Physical: 0xabcdef01, Pages: most, Perm: 3}}, Lines: []int{3, most, 0, 3}},
			{Name: "B2", Entry: most},
			{Name: "0123456789abcdeF", Ranges: []api.Range{{}}},
		},
		Windows: []api.Window{{Cell: 2, Start: 1<<64 - 1}, {Cell: 1, Length: 1<<64 - 1}, {Cell: 2, Start: 7, Length: 5000}},
		Samples: []api.Sample{{Writer: 1, Size: 64, Readers: []int{2, 1, 2}}, {Writer: 2}, {Writer: 3, Size: most, Readers: []int{1}}},
		Queues:  []api.Queue{{Writer: 2, Reader: 1, Size: 8, Depth: 3, Quota: 2, Flow: true}, {Writer: 1, Reader: 1}, {Writer: 1, Reader: 2, Size: most, Depth: most - 1, Quota: most - 2}},
	}
	return g, []api.Load{{Cell: 2, At: 4}, {Cell: 1, At: 0x400000, Data: rising(33)}, {Cell: 2, At: most, Data: []byte{255}}}
}

// rising are n bytes, from 0 on.
func rising(n int) []byte {
	var b []byte
	for i := range n {
		b = append(b, byte(i))
	}
	return b
}

func TestWhole(t *testing.T) {
	g, l := wholeThings()
	wantPrint(t, wholeText, g, l...)
	wantParse(t, wholeText, g, l...)
	wantParse(t, strings.TrimSuffix(wholeText, "\n"), g, l...)
	wantPrint(t, wholeText[:strings.Index(wholeText, "data")], g)
	wantPrint(t, nothing, api.Config{})
	wantPrint(t, nothing, api.Config{Cells: []api.Cell{}, Windows: []api.Window{}, Samples: []api.Sample{}, Queues: []api.Queue{}}, []api.Load{}...)
	wantPrint(t, nothing+"cell a 0x00000000\nsample a 0\ndata a 0x00000000\n", api.Config{Cells: []api.Cell{{Name: "a", Ranges: []api.Range{}, Lines: []int{}}}, Samples: []api.Sample{{Writer: 1, Readers: []int{}}}}, api.Load{Cell: 1, Data: []byte{}})
}

// TestPrintPerms: each of the eight.
func TestPrintPerms(t *testing.T) {
	for p, text := range []string{"-", "r", "w", "rw", "x", "rx", "wx", "rwx"} {
		wantPrint(t, nothing+"cell a 0x00000000\nrange 0x00000000 0x00000000 0 "+text+"\n", api.Config{Cells: []api.Cell{{Name: "a", Ranges: []api.Range{{Perm: api.Perm(p)}}}}})
	}
}

// TestPrintData: sixteen bytes a line; the first ones stand in that of `data`.
func TestPrintData(t *testing.T) {
	const digits = "000102030405060708090a0b0c0d0e0f101112131415161718191a1b1c1d1e1f202122232425262728292a2b2c2d2e2f30"
	for n := range 50 {
		want := nothing + "cell a 0x00000000\ndata a 0x00000009"
		for at := 0; at < n; at += 16 {
			if at > 0 {
				want += "\nmore"
			}
			want += " " + digits[2*at:2*min(at+16, n)]
		}
		wantPrint(t, want+"\n", aCell, api.Load{Cell: 1, At: 9, Data: rising(n)})
	}
}

// least and most that ints may be, and what they may not be.
var (
	ints   = []int{0, 1, 1<<31 - 1, 1 << 31, 1<<32 - 1}
	noInts = []int{-1, -2, -1 << 31, -1 << 63, 1 << 32, 1<<32 + 1, 1 << 33, 1<<63 - 1}
)

// TestInts: each that a deck has, at its edges.
func TestInts(t *testing.T) {
	for what, put := range map[string]func(g *api.Config, n int){
		"Pages":      func(g *api.Config, n int) { g.Pages = n },
		"OwnPages":   func(g *api.Config, n int) { g.OwnPages = n },
		"Sets":       func(g *api.Config, n int) { g.Shape.Sets = n },
		"Ways":       func(g *api.Config, n int) { g.Shape.Ways = n },
		"Line":       func(g *api.Config, n int) { g.Shape.Line = n },
		"Slots":      func(g *api.Config, n int) { g.Slots = n },
		"a range":    func(g *api.Config, n int) { g.Cells[0].Ranges[1].Pages = n },
		"last range": func(g *api.Config, n int) { g.Cells[2].Ranges[0].Pages = n },
		"first line": func(g *api.Config, n int) { g.Cells[0].Lines[0] = n },
		"last line":  func(g *api.Config, n int) { g.Cells[0].Lines[3] = n },
		"other line": func(g *api.Config, n int) { g.Cells[2].Lines = []int{1, n, 2} },
		"sample":     func(g *api.Config, n int) { g.Samples[0].Size = n },
		"last one":   func(g *api.Config, n int) { g.Samples[2].Size = n },
		"Size":       func(g *api.Config, n int) { g.Queues[0].Size = n },
		"Depth":      func(g *api.Config, n int) { g.Queues[1].Depth = n },
		"Quota":      func(g *api.Config, n int) { g.Queues[2].Quota = n },
	} {
		for _, n := range ints {
			g, l := wholeThings()
			put(&g, n)
			s, e := deck.Print(g, l...)
			if e != api.OK {
				t.Errorf("%s %d: Print = %d", what, n, e)
			}
			wantParse(t, s, g, l...)
		}
		for _, n := range noInts {
			g, l := wholeThings()
			put(&g, n)
			wantNoPrint(t, what, api.ErrDeckArg, g, l...)
		}
	}
}

// TestNoCells: who is named must be a cell of the configuration.
func TestNoCells(t *testing.T) {
	for what, put := range map[string]func(g *api.Config, l []api.Load, n int){
		"window":       func(g *api.Config, l []api.Load, n int) { g.Windows[0].Cell = n },
		"last window":  func(g *api.Config, l []api.Load, n int) { g.Windows[2].Cell = n },
		"writer":       func(g *api.Config, l []api.Load, n int) { g.Samples[0].Writer = n },
		"other writer": func(g *api.Config, l []api.Load, n int) { g.Samples[2].Writer = n },
		"reader":       func(g *api.Config, l []api.Load, n int) { g.Samples[0].Readers[0] = n },
		"last reader":  func(g *api.Config, l []api.Load, n int) { g.Samples[0].Readers[2] = n },
		"sender":       func(g *api.Config, l []api.Load, n int) { g.Queues[0].Writer = n },
		"receiver":     func(g *api.Config, l []api.Load, n int) { g.Queues[2].Reader = n },
		"load":         func(g *api.Config, l []api.Load, n int) { l[0].Cell = n },
		"last load":    func(g *api.Config, l []api.Load, n int) { l[2].Cell = n },
	} {
		for _, n := range []int{1, 2, 3} {
			g, l := wholeThings()
			put(&g, l, n)
			s, e := deck.Print(g, l...)
			if e != api.OK {
				t.Errorf("%s %d: Print = %d", what, n, e)
			}
			wantParse(t, s, g, l...)
		}
		for _, n := range []int{0, -1, 4, 255, 256 + 1, 1<<32 + 1, -1 << 63, 1<<63 - 1} {
			g, l := wholeThings()
			put(&g, l, n)
			wantNoPrint(t, what, api.ErrDeckArg, g, l...)
		}
	}
	wantNoPrint(t, "window of nobody", api.ErrDeckArg, api.Config{Windows: []api.Window{{}}})
	wantNoPrint(t, "window of 1", api.ErrDeckArg, api.Config{Windows: []api.Window{{Cell: 1}}})
	wantNoPrint(t, "sample of nobody", api.ErrDeckArg, api.Config{Samples: []api.Sample{{}}})
	wantNoPrint(t, "queue of nobody", api.ErrDeckArg, api.Config{Queues: []api.Queue{{}}})
	wantNoPrint(t, "load of nobody", api.ErrDeckArg, api.Config{}, api.Load{})
}

// TestNoNames: names that are none, or that two cells have.
func TestNoNames(t *testing.T) {
	for at := range 3 {
		for _, n := range names {
			g, l := wholeThings()
			g.Cells[0].Name = "other"
			g.Cells[at].Name = n
			s, e := deck.Print(g, l...)
			if e != api.OK {
				t.Errorf("%q: Print = %d", n, e)
			}
			wantParse(t, s, g, l...)
		}
		for _, n := range append([]string{"", " ", "a b", " a", "a ", "a\n", "\n", "#", "a#", "\x00", "é", "ａ", "\xff"}, noNames...) {
			g, l := wholeThings()
			g.Cells[at].Name = n
			wantNoPrint(t, n, api.ErrDeckArg, g, l...)
		}
		for other := range 3 {
			if g, l := wholeThings(); other != at {
				g.Cells[at].Name = g.Cells[other].Name
				wantNoPrint(t, "a name of two", api.ErrDeckArg, g, l...)
			}
		}
	}
	wantNoPrint(t, "no name", api.ErrDeckArg, api.Config{Cells: []api.Cell{{}}})
	wantPrint(t, nothing+"cell a 0x00000000\ncell A 0x00000000\n", api.Config{Cells: []api.Cell{{Name: "a"}, {Name: "A"}}})
}

func TestNoPerms(t *testing.T) {
	for _, p := range []api.Perm{8, 9, 15, 16, 128, 255} {
		for _, at := range []int{0, 2} {
			g, l := wholeThings()
			g.Cells[at].Ranges[0].Perm = p
			wantNoPrint(t, "a permission", api.ErrDeckArg, g, l...)
		}
	}
}

// TestPrintLong: what has more bytes than it may, by each of its lists.
func TestPrintLong(t *testing.T) {
	short := nothing + "cell a 0x00000000\n"
	for what, list := range map[string]struct {
		put  func(g *api.Config, n int) []api.Load
		size int // of each thing as a text
		more int // of what stands beside them
	}{
		"ranges":  {func(g *api.Config, n int) []api.Load { g.Cells[0].Ranges = make([]api.Range, n); return nil }, 32, 0},
		"lines":   {func(g *api.Config, n int) []api.Load { g.Cells[0].Lines = make([]int, n); return nil }, 2, 6},
		"windows": {func(g *api.Config, n int) []api.Load { g.Windows = many(n, api.Window{Cell: 1}); return nil }, 13, 0},
		"samples": {func(g *api.Config, n int) []api.Load { g.Samples = many(n, api.Sample{Writer: 1}); return nil }, 11, 0},
		"readers": {func(g *api.Config, n int) []api.Load {
			g.Samples = []api.Sample{{Writer: 1, Readers: many(n, 1)}}
			return nil
		}, 2, 11},
		"queues": {func(g *api.Config, n int) []api.Load {
			g.Queues = many(n, api.Queue{Writer: 1, Reader: 1, Flow: true})
			return nil
		}, 21, 0},
		"loads": {func(g *api.Config, n int) []api.Load { return many(n, api.Load{Cell: 1}) }, 18, 0},
		"rows":  {func(g *api.Config, n int) []api.Load { return []api.Load{{Cell: 1, Data: make([]byte, 16*n)}} }, 38, 13},
	} {
		left := api.MaxSource - len(short) - list.more
		for n, want := range map[int]api.Errno{left / list.size: api.OK, left/list.size + 1: api.ErrDeckLong, left: api.ErrDeckLong} {
			g := api.Config{Cells: []api.Cell{{Name: "a"}}}
			l := list.put(&g, n)
			s, e := deck.Print(g, l...)
			if e != want || want != api.OK && s != "" || want == api.OK && len(s) != len(short)+list.more+n*list.size {
				t.Errorf("%d %s: Print has %d bytes, %d, want %d", n, what, len(s), e, want)
			}
			if e == api.OK {
				wantParse(t, s, g, l...)
			}
		}
	}
}

// TestPrintToTheByte: 20000 of them are not too many, and one more is.
func TestPrintToTheByte(t *testing.T) {
	g := api.Config{Cells: []api.Cell{{Name: "a"}}}
	at := len(nothing) + len("cell a 0x00000000\ndata a 0x00000000")
	for n := 8000; n < 9000; n++ {
		size := at + (n+15)/16*len("\nmore ") - len("more") + 2*n
		s, e := deck.Print(g, api.Load{Cell: 1, Data: make([]byte, n)})
		if size <= api.MaxSource && (e != api.OK || len(s) != size) || size > api.MaxSource && (e != api.ErrDeckLong || s != "") {
			t.Fatalf("%d bytes: %d of text, %d, want %d", n, len(s), e, size)
		}
	}
	for name := 1; name <= 16; name++ {
		g := api.Config{Cells: []api.Cell{{Name: strings.Repeat("n", name)}}}
		for pad := range 40 {
			g.Cells[0].Lines = many((api.MaxSource-len(nothing)-len("cell  0x00000000\n")-name-len("lines\n"))/2+pad-20, 0)
			want := len(nothing) + len("cell  0x00000000\n") + name + len("lines\n") + 2*len(g.Cells[0].Lines)
			s, e := deck.Print(g)
			if want <= api.MaxSource && (e != api.OK || len(s) != want) || want > api.MaxSource && (e != api.ErrDeckLong || s != "") {
				t.Fatalf("%d of text, %d, want %d", len(s), e, want)
			}
		}
	}
}

// TestArgAheadOfLong: of both that which is named first.
func TestArgAheadOfLong(t *testing.T) {
	long := api.Load{Cell: 1, Data: make([]byte, 1<<20)}
	g := api.Config{Cells: []api.Cell{{Name: "a", Lines: make([]int, 1<<16)}}}
	wantNoPrint(t, "long", api.ErrDeckLong, g, long, long)
	wantNoPrint(t, "long, a load of nobody", api.ErrDeckArg, g, long, long, api.Load{})
	g.Queues = []api.Queue{{Writer: 1, Reader: 1, Quota: -1}}
	wantNoPrint(t, "long, a number", api.ErrDeckArg, g, long)
	g.Queues = nil
	g.Cells[0].Lines[1<<16-1] = -1
	wantNoPrint(t, "long, a line", api.ErrDeckArg, g, long)
}

// many is a list of n such things.
func many[T any](n int, v T) []T {
	l := make([]T, n)
	for i := range l {
		l[i] = v
	}
	return l
}
