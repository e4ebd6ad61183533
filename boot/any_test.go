package boot_test

import (
	"math/rand"
	"strconv"

	"cloister/api"
	"cloister/valid"
)

func pick[T any](random *rand.Rand, l []T) T { return l[random.Intn(len(l))] }

// anyValid is any configuration that may be.
func anyValid(random *rand.Rand) api.Config {
	g := api.Config{
		Shape: api.Shape{Sets: 1 << random.Intn(7), Ways: 1 + random.Intn(8), Line: 16 << random.Intn(5)},
		Slots: 1 + random.Intn(8),
	}
	lines := random.Perm(api.Lines)
	for i := range 1 + random.Intn(api.MaxCells) {
		c, n := anyCell(random, i), random.Intn(5)
		c.Lines, lines = lines[:n:n], lines[n:]
		g.Cells = append(g.Cells, c)
	}
	if n := len(g.Cells); n > 1 {
		for range random.Intn(5) {
			g.Samples = append(g.Samples, anySample(random, n))
			g.Queues = append(g.Queues, anyQueue(random, n))
		}
	}
	g.OwnPages = valid.Need(g) + random.Intn(3)
	layOut(random, &g)
	layWindows(random, &g)
	return g
}

// anyCell has ranges without a physical address, often near the end of a
// table, or one behind the other.
func anyCell(random *rand.Rand, i int) api.Cell {
	c, taken := api.Cell{Name: strconv.Itoa(i) + "cell"}, map[uint32]int{}
	perms := []api.Perm{rx, rwx, api.Exec, api.Read, rw}
	for len(c.Ranges) == 0 || len(c.Ranges) < api.MaxRanges && random.Intn(3) > 0 {
		r := api.Range{Pages: 1 + random.Intn(4), Perm: pick(random, perms)}
		first := (uint32(1+random.Intn(1024))<<10 - uint32(random.Intn(6))) % (1 << 20)
		if len(c.Ranges) == 0 {
			r.Perm = perms[random.Intn(3)]
			c.Entry = first*page + 4*uint32(random.Intn(r.Pages*1024))
		} else if last := c.Ranges[len(c.Ranges)-1]; random.Intn(2) == 0 {
			first = last.Virtual/page + uint32(last.Pages)
		}
		free := first+uint32(r.Pages) <= 1<<20
		for k := range uint32(r.Pages) {
			free = free && taken[first+k] == 0
		}
		if !free {
			continue
		}
		for k := range uint32(r.Pages) {
			taken[first+k]++
		}
		r.Virtual = first * page
		c.Ranges = append(c.Ranges, r)
	}
	random.Shuffle(len(c.Ranges), func(i, j int) { c.Ranges[i], c.Ranges[j] = c.Ranges[j], c.Ranges[i] })
	return c
}

func anySample(random *rand.Rand, cells int) api.Sample {
	all := random.Perm(cells)
	for i := range all {
		all[i]++
	}
	return api.Sample{Writer: all[0], Size: 4 * (1 + random.Intn(64)), Readers: all[1 : 2+random.Intn(cells-1)]}
}

func anyQueue(random *rand.Rand, cells int) api.Queue {
	all := random.Perm(cells)
	return api.Queue{
		Writer: 1 + all[0], Reader: 1 + all[1], Size: 4 * (1 + random.Intn(64)),
		Depth: 1 + random.Intn(32), Quota: 1 + random.Intn(16), Flow: random.Intn(2) == 0,
	}
}

// layOut lays all ranges, and the monitor's pages, into memory, in any order.
func layOut(random *rand.Rand, g *api.Config) {
	type block struct {
		at    *uint32
		pages int
	}
	blocks := []block{{&g.OwnBase, g.OwnPages}}
	for _, c := range g.Cells {
		for i := range c.Ranges {
			blocks = append(blocks, block{&c.Ranges[i].Physical, c.Ranges[i].Pages})
		}
	}
	random.Shuffle(len(blocks), func(i, j int) { blocks[i], blocks[j] = blocks[j], blocks[i] })
	for _, b := range blocks {
		*b.at = uint32(g.Pages) * page
		g.Pages += b.pages + random.Intn(2)*random.Intn(3)
	}
}

func layWindows(random *rand.Rand, g *api.Config) {
	gap := func() uint64 { return uint64(random.Intn(2) * random.Intn(100)) }
	at := gap()
	for range 1 + random.Intn(api.MaxWindows) {
		w := api.Window{Cell: 1 + random.Intn(len(g.Cells)), Start: at}
		w.Length = valid.MaxStep(*g, w.Cell) + valid.Switch(*g, w.Cell) + gap()
		g.Windows = append(g.Windows, w)
		at += w.Length + gap()
	}
	g.Major = at + gap()
}
