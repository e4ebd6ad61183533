package hyper_test

import (
	"math/rand"
	"slices"

	"cloister/api"
	"cloister/valid"
)

func pick[T any](random *rand.Rand, l ...T) T { return l[random.Intn(len(l))] }

// anyMachine is any configuration that may be: two to eight cells, each with
// some pages round the address 0 and around one other place, and ports between
// them.
func anyMachine(random *rand.Rand) api.Config {
	g := api.Config{
		Shape: api.Shape{Sets: 1 << random.Intn(5), Ways: 1 + random.Intn(4), Line: 16 << random.Intn(3)},
		Slots: 1 + random.Intn(6),
	}
	n := 2 + random.Intn(api.MaxCells-1)
	lines := random.Perm(api.Lines)
	for i := range n {
		c := api.Cell{Name: string(rune('a' + i)), Ranges: anyRanges(random)}
		c.Entry, c.Lines = c.Ranges[0].Virtual, lines[3*i:3*i+random.Intn(4)]
		g.Cells = append(g.Cells, c)
	}
	for range random.Intn(5) {
		who := random.Perm(n)
		for i := range who {
			who[i]++
		}
		g.Samples = append(g.Samples, api.Sample{Writer: who[0], Size: anySize(random), Readers: who[1 : 2+random.Intn(n-1)]})
	}
	for range 1 + random.Intn(5) {
		who := random.Perm(n)
		q := api.Queue{Writer: who[0] + 1, Reader: who[1] + 1, Flow: random.Intn(2) == 0}
		q.Size, q.Depth, q.Quota = anySize(random), 1+random.Intn(4), 1+random.Intn(3)
		g.Queues = append(g.Queues, q)
	}
	return placed(random, g)
}

func anySize(random *rand.Rand) int {
	return pick(random, 4, 8, 12, 64, 4+4*random.Intn(64), api.MaxMessage)
}

// anyRanges are pages one behind the other, some left out, of all permissions;
// the first one can be executed. They lie nowhere yet.
func anyRanges(random *rand.Rand) []api.Range {
	at := uint32(0) - page*uint32(random.Intn(3))
	l := []api.Range{{Virtual: at, Pages: 1, Perm: pick(random, rx, api.Exec, rx|api.Write)}}
	for len(l) < 3+random.Intn(5) {
		at += page * uint32(1+random.Intn(2)*random.Intn(3))
		l = append(l, api.Range{Virtual: at, Pages: 1, Perm: pick(random, rw, rw, rw, api.Read, api.Exec, rx)})
		if random.Intn(4) == 0 && at < 1<<20 {
			at = 0x003fe000
		}
	}
	return l
}

// placed lays the pages and the windows of a configuration.
func placed(random *rand.Rand, g api.Config) api.Config {
	g.OwnPages = valid.Need(g)
	g.Pages = g.OwnPages
	for _, c := range g.Cells {
		for i := range c.Ranges {
			c.Ranges[i].Physical = uint32(g.Pages) * page
			g.Pages += 1 + random.Intn(2)
		}
	}
	for range 2 + random.Intn(9) {
		g.Major += uint64(random.Intn(2) * random.Intn(50))
		w := api.Window{Cell: 1 + random.Intn(len(g.Cells)), Start: g.Major}
		w.Length = valid.MaxStep(g, w.Cell) + valid.Switch(g, w.Cell) + uint64(random.Intn(200))
		g.Windows = append(g.Windows, w)
		g.Major += w.Length
	}
	g.Major += uint64(random.Intn(50))
	return g
}

// anyAddress is one near an edge of a cell's pages, mostly a multiple of 4.
func anyAddress(random *rand.Rand, g api.Config, cell int) uint32 {
	r := pick(random, g.Cells[cell-1].Ranges...)
	at := r.Virtual + pick(random, 0, page-4, page-64, page-256, page-4*uint32(random.Intn(64)), 4*uint32(random.Intn(1024)))
	switch random.Intn(16) {
	case 0:
		return at + uint32(random.Intn(4))
	case 1:
		return random.Uint32()
	case 2:
		return at - page
	}
	return at
}

// ownPorts are the ports that a cell may ask by a number, and their Sizes.
func ownPorts(g api.Config, cell int, number uint32) (ports []uint32, sizes []int) {
	add := func(i int, own bool, size int) {
		if own {
			ports, sizes = append(ports, uint32(i)), append(sizes, size)
		}
	}
	for i, s := range g.Samples {
		add(i, number == write && s.Writer == cell || number == read && slices.Contains(s.Readers, cell), s.Size)
	}
	for i, q := range g.Queues {
		add(i, number == send && q.Writer == cell || number == receive && q.Reader == cell, q.Size)
	}
	return ports, sizes
}

// anyAsking is a call of a cell: mostly one that may be, as far as that can be
// said without looking at what ports have.
func anyAsking(random *rand.Rand, g api.Config, cell int) (number uint32, r api.Regs) {
	r = api.Regs{PC: random.Uint32(), Vector: random.Uint32(), Back: random.Uint32(), On: random.Intn(2) == 0, Handling: random.Intn(2) == 0}
	for i := range r.R {
		r.R[i] = random.Uint32()
	}
	number = 1 + uint32(random.Intn(4))
	if random.Intn(4) == 0 {
		number = pick(random, 5+uint32(random.Intn(7)), uint32(random.Intn(14)), random.Uint32())
	}
	if number < write || number > receive {
		return number, r
	}
	size := pick(random, 4, 256)
	r.R[1] = pick(random, uint32(random.Intn(7)), uint32(random.Intn(7)), random.Uint32())
	if ports, sizes := ownPorts(g, cell, number); len(ports) > 0 && random.Intn(8) > 0 {
		i := random.Intn(len(ports))
		r.R[1], size = ports[i], sizes[i]
	}
	r.R[2] = anyAddress(random, g, cell)
	if random.Intn(15) > 0 {
		r.R[3] = pick(random, uint32(size), uint32(4*random.Intn(size/4+1)), uint32(4*random.Intn(size/4+1)), uint32(random.Intn(size+9)))
	}
	return number, r
}
