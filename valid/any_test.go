package valid_test

import (
	"math"
	"math/rand"
	"strconv"

	"cloister/api"
)

// anyValid is any configuration that may be.
func anyValid(random *rand.Rand) api.Config {
	g := api.Config{
		Shape: api.Shape{Sets: 1 << random.Intn(9), Ways: 1 + random.Intn(8), Line: 16 << random.Intn(5)},
		Slots: 1 + random.Intn(64),
	}
	lines := random.Perm(api.Lines)
	for i := range 1 + random.Intn(8) {
		n := random.Intn(5)
		c := anyCell(random, i)
		c.Lines, lines = append([]int(nil), lines[:min(n, len(lines))]...), lines[min(n, len(lines)):]
		g.Cells = append(g.Cells, c)
	}
	if len(g.Cells) > 1 {
		for range random.Intn(17) {
			g.Samples = append(g.Samples, anySample(random, len(g.Cells)))
		}
		for range random.Intn(17) {
			g.Queues = append(g.Queues, anyQueue(random, len(g.Cells)))
		}
	}
	g.OwnPages = modelNeed(g) + random.Intn(3)
	layOut(random, &g)
	layWindows(random, &g)
	return g
}

func anyCell(random *rand.Rand, i int) api.Cell {
	c := api.Cell{Name: strconv.Itoa(random.Intn(1000)) + string(rune('a'+i))}
	perms := []api.Perm{1, 3, 4, 5, 7}
	for len(c.Ranges) == 0 || len(c.Ranges) < 8 && random.Intn(2) == 0 {
		r := api.Range{Virtual: anyPage(random) * api.PageSize, Pages: 1 + random.Intn(5), Perm: perms[random.Intn(5)]}
		if len(c.Ranges) == 0 {
			r.Perm = perms[2+random.Intn(3)]
			c.Entry = r.Virtual + 4*uint32(random.Intn(r.Pages*1024))
		}
		free := rangeMayBe(r)
		for _, o := range c.Ranges {
			free = free && !overlap(r.Virtual, r.Pages, o.Virtual, o.Pages)
		}
		if free {
			c.Ranges = append(c.Ranges, r)
		}
	}
	return c
}

// anyPage is one of a cell's addresses, often near the end of a table.
func anyPage(random *rand.Rand) uint32 {
	if random.Intn(3) == 0 {
		return uint32(random.Intn(1 << 20))
	}
	return (uint32(1+random.Intn(1024))<<10 - uint32(random.Intn(6))) % (1 << 20)
}

func anySample(random *rand.Rand, cells int) api.Sample {
	all := random.Perm(cells)
	for i := range all {
		all[i]++
	}
	return api.Sample{Writer: all[0], Size: 4 * (1 + random.Intn(64)), Readers: all[1 : 2+random.Intn(cells-1)]}
}

func anyQueue(random *rand.Rand, cells int) api.Queue {
	all := random.Perm(cells)
	return api.Queue{
		Writer: 1 + all[0], Reader: 1 + all[1], Size: 4 * (1 + random.Intn(64)),
		Depth: 1 + random.Intn(32), Quota: 1 + random.Intn(16), Flow: random.Intn(2) == 0,
	}
}

// layOut lays all ranges, and the monitor's pages, into memory, in any order.
func layOut(random *rand.Rand, g *api.Config) {
	frame := uint32(0)
	lay := func(at *uint32, pages int) func() {
		return func() {
			*at = frame * api.PageSize
			frame += uint32(pages + random.Intn(2)*random.Intn(3))
		}
	}
	blocks := []func(){lay(&g.OwnBase, g.OwnPages)}
	for _, c := range g.Cells {
		for i := range c.Ranges {
			blocks = append(blocks, lay(&c.Ranges[i].Physical, c.Ranges[i].Pages))
		}
	}
	random.Shuffle(len(blocks), func(i, j int) { blocks[i], blocks[j] = blocks[j], blocks[i] })
	for _, lay := range blocks {
		lay()
	}
	g.Pages = int(frame)
}

func layWindows(random *rand.Rand, g *api.Config) {
	gap := func() uint64 { return uint64(random.Intn(2) * random.Intn(100)) }
	at := gap()
	for range 1 + random.Intn(32) {
		w := api.Window{Cell: 1 + random.Intn(len(g.Cells)), Start: at}
		w.Length = modelStep(*g, w.Cell) + modelSwitch(*g, w.Cell) + gap()
		g.Windows = append(g.Windows, w)
		at += w.Length + gap()
	}
	g.Major = at + gap()
}

// ints are all numbers of a configuration that are ints.
func ints(g *api.Config) []*int {
	all := []*int{&g.Pages, &g.OwnPages, &g.Shape.Sets, &g.Shape.Ways, &g.Shape.Line, &g.Slots}
	for i := range g.Cells {
		c := &g.Cells[i]
		for j := range c.Ranges {
			all = append(all, &c.Ranges[j].Pages)
		}
		for j := range c.Lines {
			all = append(all, &c.Lines[j])
		}
	}
	for i := range g.Windows {
		all = append(all, &g.Windows[i].Cell)
	}
	for i := range g.Samples {
		s := &g.Samples[i]
		all = append(all, &s.Writer, &s.Size)
		for j := range s.Readers {
			all = append(all, &s.Readers[j])
		}
	}
	for i := range g.Queues {
		q := &g.Queues[i]
		all = append(all, &q.Writer, &q.Reader, &q.Size, &q.Depth, &q.Quota)
	}
	return all
}

// words are all that are addresses.
func words(g *api.Config) []*uint32 {
	all := []*uint32{&g.OwnBase}
	for i := range g.Cells {
		c := &g.Cells[i]
		all = append(all, &c.Entry)
		for j := range c.Ranges {
			all = append(all, &c.Ranges[j].Virtual, &c.Ranges[j].Physical)
		}
	}
	return all
}

// longs are all that are ticks.
func longs(g *api.Config) []*uint64 {
	all := []*uint64{&g.Major}
	for i := range g.Windows {
		all = append(all, &g.Windows[i].Start, &g.Windows[i].Length)
	}
	return all
}

func pick[T any](random *rand.Rand, l []T) T { return l[random.Intn(len(l))] }

// changed changes one thing of a configuration, often by little.
func changed(random *rand.Rand, g *api.Config) {
	switch random.Intn(6) {
	case 0:
		n := pick(random, ints(g))
		*n += pick(random, []int{-1, 1, -2, 2, -4, 4, 16, -16, 256})
	case 1:
		*pick(random, ints(g)) = pick(random, []int{math.MinInt, -1, 0, 1, 2, 4, 8, 9, 16, 17, 32, 33, 64, 65, 256, 257, 4096, 4097, 1 << 32, 1 << 52, math.MaxInt})
	case 2:
		n := pick(random, words(g))
		*n = pick(random, []uint32{*n + 4096, *n - 4096, *n + 1, *n + 4, *n - 4, *n + 8192, 0, 0xfffff000, *n &^ 4095, 1 << 24, 1<<24 - 4096})
	case 3:
		n := pick(random, longs(g))
		*n = pick(random, []uint64{*n + 1, *n - 1, *n + 100, *n - 100, 0, 1, 1 << 40, 1<<40 + 1, math.MaxUint64, math.MaxUint64 - *n})
	case 4:
		changedCell(random, &g.Cells[random.Intn(len(g.Cells))], g)
	case 5:
		changedLists(random, g)
	}
}

func changedCell(random *rand.Rand, c *api.Cell, g *api.Config) {
	r := &c.Ranges[random.Intn(len(c.Ranges))]
	other := g.Cells[random.Intn(len(g.Cells))]
	switch random.Intn(7) {
	case 0:
		c.Name = pick(random, []string{"", "a", "A9", "a b", "ä", "0123456789abcdef", "0123456789abcdefg", other.Name})
	case 1:
		r.Perm = api.Perm(random.Intn(10))
	case 2:
		r.Virtual = pick(random, c.Ranges).Virtual
	case 3:
		r.Physical = pick(random, other.Ranges).Physical
	case 4:
		c.Ranges = append(c.Ranges, pick(random, other.Ranges))
	case 5:
		c.Lines = append(c.Lines, random.Intn(34)-1)
	case 6:
		c.Lines = append(c.Lines, other.Lines...)
	}
}

func changedLists(random *rand.Rand, g *api.Config) {
	switch random.Intn(8) {
	case 0:
		g.Windows = g.Windows[:len(g.Windows)-1]
	case 1:
		g.Windows = append(g.Windows, pick(random, g.Windows))
	case 2:
		i, j := random.Intn(len(g.Windows)), random.Intn(len(g.Windows))
		g.Windows[i], g.Windows[j] = g.Windows[j], g.Windows[i]
	case 3:
		for range random.Intn(17) {
			g.Samples = append(g.Samples, anySample(random, 8))
		}
	case 4:
		for range random.Intn(17) {
			g.Queues = append(g.Queues, anyQueue(random, 8))
		}
	case 5:
		g.Cells = append(g.Cells, anyCell(random, len(g.Cells)))
	case 6:
		if len(g.Samples) > 0 {
			g.Samples[random.Intn(len(g.Samples))].Readers = nil
		}
	case 7:
		for i := range g.Queues {
			g.Queues[i].Flow = !g.Queues[i].Flow
		}
	}
}
