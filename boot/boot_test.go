package boot_test

import (
	"bytes"
	"slices"
	"testing"

	"cloister/api"
	"cloister/boot"
	"cloister/config"
	"cloister/hours"
)

const (
	page = api.PageSize
	rx   = api.Read | api.Exec
	rw   = api.Read | api.Write
	rwx  = api.Read | api.Write | api.Exec
)

// good is a configuration that may be. Addresses of its cells overlap, ranges
// stand in no order, one goes on in another table, one ends with the last
// address, and some follow upon one another in a cell's addresses, but not in
// memory. The monitor has four pages more than it needs.
func good() api.Config {
	return api.Config{
		Pages: 48, OwnBase: 5 * page, OwnPages: 16,
		Shape: api.Shape{Sets: 4, Ways: 2, Line: 32}, Slots: 3, Major: 30000,
		Cells: []api.Cell{
			{Name: "alpha", Entry: 0x1008, Lines: []int{31, 0}, Ranges: []api.Range{
				{Virtual: 0x1000, Physical: 0, Pages: 2, Perm: rx},
				{Virtual: 0x3ff000, Physical: 40 * page, Pages: 3, Perm: rw},
				{Virtual: 0x3fe000, Physical: 30 * page, Pages: 1, Perm: api.Read},
			}},
			{Name: "Beta2", Entry: 0xfffffffc, Ranges: []api.Range{
				{Virtual: 0xfffff000, Physical: 2 * page, Pages: 1, Perm: api.Exec},
				{Virtual: 0x1000, Physical: 3 * page, Pages: 2, Perm: rwx},
			}},
			{Name: "c", Entry: 0x80000000, Lines: []int{7, 3, 12}, Ranges: []api.Range{
				{Virtual: 0x80000000, Physical: 21 * page, Pages: 4, Perm: rx},
				{Virtual: 0x7fffe000, Physical: 45 * page, Pages: 2, Perm: rw},
			}},
		},
		Windows: []api.Window{
			{Cell: 1, Start: 100, Length: 5000},
			{Cell: 2, Start: 5100, Length: 5000},
			{Cell: 3, Start: 12000, Length: 5000},
			{Cell: 1, Start: 17000, Length: 5000},
			{Cell: 2, Start: 22000, Length: 8000},
		},
		Samples: []api.Sample{
			{Writer: 1, Size: 64, Readers: []int{2, 3}},
			{Writer: 3, Size: 4, Readers: []int{1}},
		},
		Queues: []api.Queue{
			{Writer: 1, Reader: 2, Size: 8, Depth: 3, Quota: 16, Flow: true},
			{Writer: 2, Reader: 3, Size: 256, Depth: 32, Quota: 2},
		},
	}
}

// crowd has so many cells, each with a page, its tables at the beginning of
// memory, and a window, and no ports.
func crowd(n int) api.Config {
	g := api.Config{Pages: 4 * n, OwnPages: 2 * n, Shape: api.Shape{Sets: 1, Ways: 1, Line: 16}, Slots: 1, Major: 8000}
	for i := range n {
		r := api.Range{Virtual: 0x1000, Physical: uint32(2*n+i) * page, Pages: 1, Perm: rx}
		g.Cells = append(g.Cells, api.Cell{Name: string(rune('a' + i)), Entry: 0x1000, Ranges: []api.Range{r}})
		g.Windows = append(g.Windows, api.Window{Cell: i + 1, Start: uint64(i) * 1000, Length: 1000})
	}
	return g
}

func load(cell int, at uint32, data ...byte) api.Load {
	return api.Load{Cell: cell, At: at, Data: data}
}

func blobOf(t testing.TB, g api.Config) []byte {
	t.Helper()
	b, e := config.Encode(g)
	if e != api.OK {
		t.Fatalf("%+v cannot be written: %d", g, e)
	}
	return b
}

func booted(t testing.TB, g api.Config, l ...api.Load) *boot.Machine {
	t.Helper()
	m, e := boot.Boot(blobOf(t, g), l...)
	if m == nil || e != api.OK {
		t.Fatalf("Boot = %v, %d", m, e)
	}
	return m
}

func wantRefused(t testing.TB, what string, blob []byte, want api.Errno, l ...api.Load) {
	t.Helper()
	if m, e := boot.Boot(blob, l...); m != nil || e != want {
		t.Errorf("%s: Boot = %v, %d, want %d", what, m, e, want)
	}
}

func wantBytes(t testing.TB, m *boot.Machine, at uint32, want ...byte) {
	t.Helper()
	if b, e := m.Memory.Read(at, len(want)); !bytes.Equal(b, want) || e != api.OK {
		t.Errorf("at %#x: %v, %d, want %v", at, b, e, want)
	}
}

// TestExamples: those of the chapter.
func TestExamples(t *testing.T) {
	m := booted(t, crowd(2))
	if !slices.Equal(m.Roots, []uint32{0, 8192}) {
		t.Errorf("roots %v", m.Roots)
	}
	for at, want := range map[uint32]uint32{0: 4096 | 0x11, 8192: 12288 | 0x11} {
		if w, _ := m.Memory.Load(at, 4); w != want {
			t.Errorf("the word at %d is %#x, want %#x", at, w, want)
		}
	}
	b := blobOf(t, crowd(2))
	wantRefused(t, "4 bytes behind the page", b, api.ErrBootArg, load(1, 0x1ffc, 1, 2, 3, 4, 5, 6, 7, 8))
	wantRefused(t, "cell 3 of two", b, api.ErrBootArg, load(3, 0x1000))
	m = booted(t, crowd(2), load(2, 0x1010, 1, 2, 3), load(2, 0x1010, 4, 5, 6))
	wantBytes(t, m, 5*page+16, 4, 5, 6)
}

func TestErrorNumber(t *testing.T) {
	if api.ErrBootArg != 190 {
		t.Errorf("ErrBootArg has the number %d", api.ErrBootArg)
	}
}

func TestConfiguration(t *testing.T) {
	for _, g := range []api.Config{good(), crowd(1), crowd(8)} {
		if m := booted(t, g); !config.Equal(m.Config, g) {
			t.Errorf("%+v, want %+v", m.Config, g)
		}
	}
}

// TestController: each line is its cell's, no other one is anybody's, and
// nothing is pending or masked.
func TestController(t *testing.T) {
	m := booted(t, good())
	var want api.GicState
	for line, cell := range map[int]int{31: 1, 0: 1, 7: 3, 3: 3, 12: 3} {
		want.Route[line] = cell
	}
	if s := m.Gic.State(); s != want {
		t.Errorf("%+v, want %+v", s, want)
	}
	if fresh, e := m.Gic.Raise(12); !fresh || e != api.OK {
		t.Errorf("a line of cell 3: %v, %d", fresh, e)
	}
	if fresh, e := m.Gic.Raise(1); fresh || e != api.OK {
		t.Errorf("nobody's line: %v, %d", fresh, e)
	}
	if line, there := m.Gic.Take(3); line != 12 || !there {
		t.Errorf("Take(3) = %d, %v", line, there)
	}
	if s := booted(t, crowd(3)).Gic.State(); s != (api.GicState{}) {
		t.Errorf("without lines: %+v", s)
	}
	g := crowd(8)
	for line := range api.Lines {
		c := &g.Cells[line%8]
		c.Lines = append(c.Lines, line)
	}
	m = booted(t, g)
	for line, cell := range m.Gic.State().Route {
		if cell != line%8+1 {
			t.Errorf("line %d goes to cell %d", line, cell)
		}
	}
}

func TestHours(t *testing.T) {
	for _, g := range []api.Config{good(), crowd(1), crowd(8)} {
		h, n := booted(t, g).Hours, uint64(len(g.Windows))
		for k := range 3 * n {
			w := g.Windows[k%n]
			w.Start += k / n * g.Major
			if got := (api.Window{Cell: h.Owner(k), Start: h.Start(k), Length: h.Length(k)}); got != w {
				t.Errorf("window %d is %+v, want %+v", k, got, w)
			}
			if at, in := h.At(w.Start + w.Length - 1); at != k || !in {
				t.Errorf("window %d: its last tick is in %d, %v", k, at, in)
			}
		}
	}
	h := booted(t, good()).Hours
	if k, in := h.At(11000); k != 1 || in {
		t.Errorf("At(11000) = %d, %v", k, in)
	}
	if l := h.Of(2); !slices.Equal(l, []int{1, 4}) {
		t.Errorf("Of(2) = %v", l)
	}
	wantSameHours(t, h, good())
}

// wantSameHours: is it the table of a configuration?
func wantSameHours(t testing.TB, h *hours.Hours, g api.Config) {
	t.Helper()
	o, e := hours.New(g.Major, g.Windows...)
	if e != api.OK {
		t.Fatalf("hours.New = %d", e)
	}
	for i := range 3 * uint64(len(g.Windows)) {
		for _, tick := range []uint64{i, o.Start(i), o.Start(i) + o.Length(i), o.Start(i) - 1, api.MaxTick - i*g.Major/7} {
			k, in := h.At(tick)
			if l, also := o.At(tick); k != l || in != also || h.Next(tick) != o.Next(tick) || h.Owner(k) != o.Owner(k) {
				t.Fatalf("tick %d is in window %d, %v, want %d, %v", tick, k, in, l, also)
			}
		}
	}
}
