package valid_test

import (
	"math"
	"testing"

	"cloister/api"
	"cloister/valid"
)

func wantStep(t *testing.T, what string, g api.Config, cell int, want uint64) {
	t.Helper()
	if n := valid.MaxStep(g, cell); n != want {
		t.Errorf("%s: MaxStep of %d = %d, want %d", what, cell, n, want)
	}
}

func wantSwitch(t *testing.T, what string, g api.Config, cell int, want uint64) {
	t.Helper()
	if n := valid.Switch(g, cell); n != want {
		t.Errorf("%s: Switch of %d = %d, want %d", what, cell, n, want)
	}
}

func wantNeed(t *testing.T, what string, g api.Config, want int) {
	t.Helper()
	if n := valid.Need(g); n != want {
		t.Errorf("%s: Need = %d, want %d", what, n, want)
	}
}

func TestNoSuchCell(t *testing.T) {
	for _, cell := range []int{math.MinInt, -1, 0, 4, 5, 8, 9, 255, 1<<32 + 1, math.MaxInt} {
		wantStep(t, "no such cell", good(), cell, 0)
		wantSwitch(t, "no such cell", good(), cell, 0)
	}
	for _, cell := range []int{0, 1} {
		wantStep(t, "no cells", api.Config{}, cell, 0)
		wantSwitch(t, "no cells", api.Config{}, cell, 0)
	}
	// a port that says so makes no cell of a number
	g := good()
	g.Samples[0].Writer, g.Queues[0].Reader = 4, 0
	wantStep(t, "a port's cell", g, 4, 0)
	wantSwitch(t, "a port's cell", g, 4, 0)
	wantStep(t, "a port's cell", g, 0, 0)
}

// TestMoreCellsThanMayBe: all that there are can be asked about.
func TestMoreCellsThanMayBe(t *testing.T) {
	g := api.Config{Cells: make([]api.Cell, 20), Samples: []api.Sample{{Writer: 20, Size: 8, Readers: []int{19}}}}
	wantStep(t, "20 cells", g, 20, 1+60+10+120)
	wantStep(t, "20 cells", g, 19, 1+60+10+120)
	wantStep(t, "20 cells", g, 18, 121)
	wantStep(t, "20 cells", g, 21, 0)
	wantSwitch(t, "20 cells", g, 20, 48+4)
	wantSwitch(t, "20 cells", g, 19, 48)
	wantNeed(t, "20 cells", g, 20+1)
}

// counted is which size a Size counts as.
func counted() map[int]int {
	all := map[int]int{math.MinInt: 0, -4: 0, -1: 0, 257: 256, 260: 256, 1 << 32: 256, 1<<62 + 4: 256, math.MaxInt: 256}
	for n := range 257 {
		all[n] = n
	}
	return all
}

func TestMaxStepBySize(t *testing.T) {
	for size, counts := range counted() {
		words := uint64(counts / 4)
		want := 1 + 60 + 10 + 60*words
		if words == 0 {
			want = 121
		}
		g := api.Config{Cells: make([]api.Cell, 4)}
		g.Samples = []api.Sample{{Writer: 1, Size: size, Readers: []int{2, 3}}}
		for cell, most := range []uint64{0, want, want, want, 121} {
			wantStep(t, "a sample", g, cell, most)
		}
		g.Samples, g.Queues = nil, []api.Queue{{Writer: 4, Reader: 2, Size: size}}
		for cell, most := range []uint64{0, 121, want, 121, want} {
			wantStep(t, "a queue", g, cell, most)
		}
	}
}

// TestMaxStepIsOfTheGreatest: sizes of several ports are not added.
func TestMaxStepIsOfTheGreatest(t *testing.T) {
	g := api.Config{Cells: make([]api.Cell, 3)}
	g.Samples = []api.Sample{
		{Writer: 1, Size: 8, Readers: []int{2}},
		{Writer: 2, Size: 100, Readers: []int{1}},
		{Writer: 3, Size: 256, Readers: []int{2}},
	}
	g.Queues = []api.Queue{{Writer: 2, Reader: 1, Size: 64}, {Writer: 1, Reader: 2, Size: 12}, {Writer: 3, Reader: 2, Size: 200}}
	wantStep(t, "several", g, 1, 71+60*25)
	wantStep(t, "several", g, 2, 71+60*64)
	g.Samples = g.Samples[:1]
	wantStep(t, "several", g, 1, 71+60*16)
	wantStep(t, "several", g, 2, 71+60*50)
	g.Queues[0].Size = 4
	wantStep(t, "several", g, 1, 71+60*3)
}

// TestMaxStepWhateverTheCache: an access takes 20 ticks at most, also of a
// cache that may not be.
func TestMaxStepWhateverTheCache(t *testing.T) {
	for _, s := range []api.Shape{{}, {Sets: 1, Ways: 1, Line: 16}, {Sets: 256, Ways: 8, Line: 256}, {Sets: -1}} {
		g := good()
		g.Shape = s
		wantStep(t, "a shape", g, 1, 1031)
	}
}

func TestSwitchByShape(t *testing.T) {
	for _, c := range []struct {
		shape api.Shape
		flush uint64
	}{
		{api.Shape{Sets: 1, Ways: 1, Line: 16}, 9},
		{api.Shape{Sets: 4, Ways: 2, Line: 256}, 68},
		{api.Shape{Sets: 256, Ways: 8, Line: 16}, 256 + 8*256*8},
		{api.Shape{}, 0},
		{api.Shape{Sets: 3, Ways: 1, Line: 16}, 0},
		{api.Shape{Sets: 4, Ways: 9, Line: 16}, 0},
		{api.Shape{Sets: 4, Ways: 2, Line: 15}, 0},
		{api.Shape{Sets: math.MaxInt, Ways: math.MaxInt, Line: 16}, 0},
	} {
		g := api.Config{Shape: c.shape, Cells: make([]api.Cell, 1)}
		wantSwitch(t, "a shape", g, 1, 48+c.flush)
	}
}

func TestSwitchBySize(t *testing.T) {
	for size, counts := range counted() {
		words := uint64(counts / 4)
		g := api.Config{Cells: make([]api.Cell, 3)}
		g.Samples = []api.Sample{{Writer: 2, Size: size, Readers: []int{1, 3}}}
		for cell, want := range []uint64{0, 48, 48 + 2*words, 48} {
			wantSwitch(t, "a sample", g, cell, want)
		}
		// a size is divided ahead of being taken so many times
		g.Samples, g.Queues = nil, []api.Queue{{Writer: 3, Reader: 1, Size: size, Depth: 5, Quota: 3, Flow: true}}
		for cell, want := range []uint64{0, 48, 48, 48 + 2*5*words} {
			wantSwitch(t, "a flow-controlled queue", g, cell, want)
		}
		g.Queues[0].Flow = false
		for cell, want := range []uint64{0, 48, 48, 48 + 2*3*words} {
			wantSwitch(t, "a one-way queue", g, cell, want)
		}
	}
}

func TestSwitchByDepthAndQuota(t *testing.T) {
	for _, n := range []int{math.MinInt, -1, 0, 1, 2, 15, 16, 17, 31, 32, 33, 1 << 32, math.MaxInt} {
		depth, quota := uint64(min(max(n, 0), 32)), uint64(min(max(n, 0), 16))
		g := api.Config{Cells: make([]api.Cell, 1), Queues: []api.Queue{{Writer: 1, Size: 12, Depth: n, Quota: 7, Flow: true}}}
		wantSwitch(t, "Depth", g, 1, 48+2*3*depth)
		g.Queues[0].Flow = false
		wantSwitch(t, "Depth of a one-way queue", g, 1, 48+2*3*7)
		g.Queues[0].Depth, g.Queues[0].Quota = 9, n
		wantSwitch(t, "Quota", g, 1, 48+2*3*quota)
		g.Queues[0].Flow = true
		wantSwitch(t, "Quota of a flow-controlled queue", g, 1, 48+2*3*9)
	}
}

// TestSwitchAddsPorts: all that a cell writes, also more ports than may be.
func TestSwitchAddsPorts(t *testing.T) {
	g := api.Config{Cells: make([]api.Cell, 2)}
	for range 100 {
		g.Samples = append(g.Samples, api.Sample{Writer: 1, Size: 8, Readers: []int{2}}, api.Sample{Writer: 2, Size: 4})
		g.Queues = append(g.Queues, api.Queue{Writer: 1, Reader: 2, Size: 4, Depth: 2, Quota: 3, Flow: true}, api.Queue{Writer: 1, Size: 4, Depth: 2, Quota: 3})
	}
	wantSwitch(t, "100 ports of a kind", g, 1, 48+2*100*(2+2+3))
	wantSwitch(t, "100 ports of a kind", g, 2, 48+2*100)
}

func TestNeedOfTables(t *testing.T) {
	page := func(virtual uint32) api.Range { return api.Range{Virtual: virtual, Pages: 1, Perm: api.Read} }
	cells := func(all ...[]api.Range) api.Config {
		var g api.Config
		for _, l := range all {
			g.Cells = append(g.Cells, api.Cell{Ranges: l})
		}
		return g
	}
	wantNeed(t, "one page", cells([]api.Range{page(0)}), 2)
	wantNeed(t, "a page of each of two cells", cells([]api.Range{page(0)}, []api.Range{page(0)}), 4)
	wantNeed(t, "two tables", cells([]api.Range{page(0), page(0x400000)}), 3)
	wantNeed(t, "one table", cells([]api.Range{page(0x400000), page(0x7ff000)}), 2)
	wantNeed(t, "no ranges: the root", cells(nil), 1)
	wantNeed(t, "a range that may not be", cells([]api.Range{page(0), {Perm: api.Read}}), 0)
	wantNeed(t, "of one cell of two", cells([]api.Range{page(0), page(1)}, []api.Range{page(0)}), 2)
	wantNeed(t, "a long one", cells([]api.Range{{Virtual: 0x3ff000, Pages: 4096, Perm: api.Read}}), 6)
}

func TestNeedOfMessages(t *testing.T) {
	samples := func(sizes ...int) api.Config {
		var g api.Config
		for _, n := range sizes {
			g.Samples = append(g.Samples, api.Sample{Size: n})
		}
		return g
	}
	queues := func(all ...api.Queue) api.Config { return api.Config{Queues: all} }
	seven := []int{256, 256, 256, 256, 256, 256, 256} // that takes 7 times 512 bytes
	wantNeed(t, "none", samples(), 0)
	wantNeed(t, "of no bytes", samples(0), 0)
	wantNeed(t, "of bytes below 0", samples(-4, math.MinInt), 0)
	wantNeed(t, "of a byte", samples(1), 1)
	wantNeed(t, "just a page", samples(append(seven, 256)...), 1)
	wantNeed(t, "sizes above 256", samples(append(seven, math.MaxInt)...), 1)
	wantNeed(t, "a byte more", samples(append(seven, 255, 2)...), 2)
	wantNeed(t, "nothing is divided", samples(append(seven, 253, 3)...), 1)
	wantNeed(t, "nothing is divided, and a byte more", samples(append(seven, 253, 3, 1)...), 2)
	wantNeed(t, "two times", samples(append(seven, seven...)...), 2)
	wantNeed(t, "flow", queues(api.Queue{Size: 256, Depth: 8, Quota: 16, Flow: true}), 1)
	wantNeed(t, "flow, deeper", queues(api.Queue{Size: 256, Depth: 9, Quota: 16, Flow: true}), 2)
	wantNeed(t, "one-way", queues(api.Queue{Size: 256, Depth: 10, Quota: 6}), 1)
	wantNeed(t, "one-way, deeper", queues(api.Queue{Size: 256, Depth: 11, Quota: 6}), 2)
	wantNeed(t, "one-way, a greater quota", queues(api.Queue{Size: 256, Depth: 10, Quota: 7}), 2)
	wantNeed(t, "one-way, beyond the bounds", queues(api.Queue{Size: 300, Depth: 40, Quota: 20}), 3)
	wantNeed(t, "flow, beyond the bounds", queues(api.Queue{Size: 300, Depth: 1 << 60, Quota: -1, Flow: true}), 4)
	wantNeed(t, "one-way, below the bounds", queues(api.Queue{Size: 256, Depth: -7, Quota: 16}), 1)
	wantNeed(t, "one-way, no quota", queues(api.Queue{Size: 256, Depth: 16, Quota: math.MinInt}), 1)
	wantNeed(t, "one byte in all", queues(api.Queue{Size: 1, Depth: 1, Quota: 0}), 1)
	wantNeed(t, "a page and a byte", queues(api.Queue{Size: 256, Depth: 8, Flow: true}, api.Queue{Size: 1, Depth: 1, Quota: 0}), 2)
	wantNeed(t, "a size below 0", queues(api.Queue{Size: math.MinInt, Depth: 32, Quota: 16}), 0)
	wantNeed(t, "nothing is divided", queues(api.Queue{Size: 255, Depth: 1, Quota: 16}, api.Queue{Size: 1, Depth: 1, Quota: 1}), 2)
}

// TestNeedIsRoundedOnce: messages of all ports lie one behind the other.
func TestNeedIsRoundedOnce(t *testing.T) {
	g := good()
	g.Samples, g.Queues = nil, nil
	wantNeed(t, "tables alone", g, 8)
	for range 8 {
		g.Samples = append(g.Samples, api.Sample{Size: 128})
		g.Queues = append(g.Queues, api.Queue{Size: 16, Depth: 8, Quota: 8}, api.Queue{Size: 1, Depth: 0, Quota: 0})
	}
	wantNeed(t, "a page of messages", g, 9)
	g.Queues[0].Quota = 9
	wantNeed(t, "a message more", g, 10)
}
