package config_test

import (
	"math"
	"strings"
	"testing"

	"cloister/api"
	"cloister/config"
)

type field struct {
	name string
	most int
	of   func(g *api.Config) *int
}

// fields: all ints of small, with the greatest number of each one's field.
func fields() []field {
	const mostByte, mostHalf, mostWord = 1<<8 - 1, 1<<16 - 1, 1<<32 - 1
	return []field{
		{"Pages", mostWord, func(g *api.Config) *int { return &g.Pages }},
		{"OwnPages", mostWord, func(g *api.Config) *int { return &g.OwnPages }},
		{"Sets", mostHalf, func(g *api.Config) *int { return &g.Shape.Sets }},
		{"Ways", mostHalf, func(g *api.Config) *int { return &g.Shape.Ways }},
		{"Line", mostHalf, func(g *api.Config) *int { return &g.Shape.Line }},
		{"Slots", mostHalf, func(g *api.Config) *int { return &g.Slots }},
		{"a range's Pages", mostWord, func(g *api.Config) *int { return &g.Cells[0].Ranges[1].Pages }},
		{"the second cell's range's Pages", mostWord, func(g *api.Config) *int { return &g.Cells[1].Ranges[0].Pages }},
		{"the first line", mostByte, func(g *api.Config) *int { return &g.Cells[0].Lines[0] }},
		{"the last line", mostByte, func(g *api.Config) *int { return &g.Cells[0].Lines[4] }},
		{"a window's Cell", mostByte, func(g *api.Config) *int { return &g.Windows[0].Cell }},
		{"the last window's Cell", mostByte, func(g *api.Config) *int { return &g.Windows[2].Cell }},
		{"a sample's Writer", mostByte, func(g *api.Config) *int { return &g.Samples[0].Writer }},
		{"a sample's Size", mostHalf, func(g *api.Config) *int { return &g.Samples[0].Size }},
		{"the first reader", mostByte, func(g *api.Config) *int { return &g.Samples[0].Readers[0] }},
		{"the last reader", mostByte, func(g *api.Config) *int { return &g.Samples[0].Readers[2] }},
		{"a queue's Writer", mostByte, func(g *api.Config) *int { return &g.Queues[0].Writer }},
		{"a queue's Reader", mostByte, func(g *api.Config) *int { return &g.Queues[0].Reader }},
		{"a queue's Size", mostHalf, func(g *api.Config) *int { return &g.Queues[0].Size }},
		{"a queue's Depth", mostHalf, func(g *api.Config) *int { return &g.Queues[0].Depth }},
		{"a queue's Quota", mostHalf, func(g *api.Config) *int { return &g.Queues[0].Quota }},
		{"the last queue's Quota", mostHalf, func(g *api.Config) *int { return &g.Queues[1].Quota }},
	}
}

func TestGreatestNumbers(t *testing.T) {
	for _, f := range fields() {
		for _, n := range []int{0, 1, f.most - 1, f.most} {
			g := small()
			*f.of(&g) = n
			blob := modelBlob(g)
			wantEncode(t, f.name, g, blob, api.OK)
			wantDecode(t, f.name, blob, g, api.OK, 0)
		}
		for _, n := range []int{math.MinInt, -f.most, -1, f.most + 1, f.most + 2, 2*f.most + 2, math.MaxInt32 << 32, math.MaxInt} {
			g := small()
			*f.of(&g) = n
			wantEncode(t, f.name, g, nil, api.ErrConfigArg)
		}
	}
}

func TestAllElseGoesIntoItsField(t *testing.T) {
	g := small()
	g.OwnBase, g.Major = math.MaxUint32, math.MaxUint64
	g.Cells[0].Entry = math.MaxUint32
	g.Cells[0].Ranges[0] = api.Range{Virtual: math.MaxUint32, Physical: math.MaxUint32, Pages: math.MaxUint32, Perm: 255}
	g.Windows[0] = api.Window{Cell: 255, Start: math.MaxUint64, Length: math.MaxUint64}
	blob := modelBlob(g)
	wantEncode(t, "all bits set", g, blob, api.OK)
	wantDecode(t, "all bits set", blob, g, api.OK, 0)
}

// ofMany has one list, or name, with n things.
func ofMany(n int) map[string]api.Config {
	return map[string]api.Config{
		"cells":   {Cells: make([]api.Cell, n)},
		"windows": {Windows: make([]api.Window, n)},
		"samples": {Samples: make([]api.Sample, n)},
		"queues":  {Queues: make([]api.Queue, n)},
		"name":    {Cells: []api.Cell{{Name: "a"}, {Name: strings.Repeat("n", n)}, {Name: "b"}}},
		"ranges":  {Cells: []api.Cell{{}, {Ranges: make([]api.Range, n)}, {}}},
		"lines":   {Cells: []api.Cell{{}, {Lines: make([]int, n)}, {}}},
		"readers": {Samples: []api.Sample{{}, {Readers: make([]int, n)}, {}}},
	}
}

func TestHowManyThings(t *testing.T) {
	for _, n := range []int{0, 1, 2, 3, 4, 5, 127, 128, 254, 255} {
		for name, g := range ofMany(n) {
			blob := modelBlob(g)
			wantEncode(t, name, g, blob, api.OK)
			wantDecode(t, name, blob, g, api.OK, 0)
		}
	}
	for _, n := range []int{256, 257, 511, 512, 65536, 1 << 20} {
		for name, g := range ofMany(n) {
			if b, e := config.Encode(g); len(b) != 0 || e != api.ErrConfigArg {
				t.Errorf("%d %s: Encode = %d bytes, %d", n, name, len(b), e)
			}
		}
	}
}

// greatest is the configuration with the longest blob.
func greatest() api.Config {
	g := api.Config{
		Pages: math.MaxUint32, OwnPages: math.MaxUint32,
		Cells: make([]api.Cell, 255), Windows: make([]api.Window, 255),
		Samples: make([]api.Sample, 255), Queues: make([]api.Queue, 255),
	}
	for i := range g.Cells {
		g.Cells[i] = api.Cell{Name: strings.Repeat("n", 255), Ranges: make([]api.Range, 255), Lines: make([]int, 255)}
		g.Cells[i].Lines[i], g.Cells[i].Ranges[i].Pages = i, i
	}
	for i := range g.Samples {
		g.Samples[i].Readers = make([]int, 255)
		g.Samples[i].Readers[i] = i
	}
	return g
}

func TestGreatestConfiguration(t *testing.T) {
	g := greatest()
	blob := modelBlob(g)
	if b, e := config.Encode(g); string(b) != string(blob) || e != api.OK {
		t.Errorf("Encode = %d bytes, %d, want %d bytes", len(b), e, len(blob))
	}
	if h, e, place := config.Decode(blob); !config.Equal(g, h) || e != api.OK || place != 0 {
		t.Errorf("Decode = %d, %d", e, place)
	}
}

// TestNamesAreBytes: they need not be a text of anything.
func TestNamesAreBytes(t *testing.T) {
	for _, name := range []string{"\x00", "\x00\x00\x00", "\xff\xfe", "ä", "a\x80b", "\n"} {
		g := api.Config{Cells: []api.Cell{{Name: name}}}
		blob := modelBlob(g)
		wantEncode(t, name, g, blob, api.OK)
		wantDecode(t, name, blob, g, api.OK, 0)
	}
}
