package audit_test

import (
	"math"
	"math/rand"
	"slices"
	"testing"

	"cloister/api"
	"cloister/valid"
)

func pick[T any](random *rand.Rand, l ...T) T { return l[random.Intn(len(l))] }

const (
	entry = 0x1000
	data  = 0x8000
)

// anyConfig has cells with a page of code and one of data each, some ports, and
// a window or two for each cell.
func anyConfig(t testing.TB, random *rand.Rand) api.Config {
	t.Helper()
	g := api.Config{
		OwnPages: 32, Pages: 64, Slots: 1 + random.Intn(4),
		Shape: api.Shape{Sets: 1 << random.Intn(5), Ways: 1 + random.Intn(3), Line: 16 << random.Intn(3)},
	}
	n := 1 + random.Intn(5)
	if random.Intn(6) == 0 {
		n = api.MaxCells
	}
	lines := random.Perm(api.Lines)
	for i := range n {
		at := uint32(32+3*i) * page
		g.Cells = append(g.Cells, api.Cell{Name: string(rune('a' + i)), Entry: entry, Lines: lines[3*i : 3*i+random.Intn(4)], Ranges: []api.Range{
			{Virtual: entry, Physical: at, Pages: 1, Perm: api.Read | api.Exec},
			{Virtual: data, Physical: at + page, Pages: 1, Perm: api.Read | api.Write},
		}})
	}
	if n > 1 {
		anyPorts(random, &g)
	}
	for _, cell := range append(random.Perm(n), random.Perm(n)[:random.Intn(n)]...) {
		w := api.Window{Cell: cell + 1, Start: g.Major + uint64(random.Intn(2)*random.Intn(100))}
		w.Length = valid.MaxStep(g, w.Cell) + valid.Switch(g, w.Cell) + uint64(pick(random, 0, random.Intn(100), random.Intn(1500), random.Intn(1500)))
		g.Windows, g.Major = append(g.Windows, w), w.Start+w.Length
	}
	g.Major += uint64(random.Intn(2) * random.Intn(100))
	if e, where := valid.Check(g); e != api.OK {
		t.Fatalf("valid.Check = %d, %d", e, where)
	}
	return g
}

func anyPorts(random *rand.Rand, g *api.Config) {
	n := len(g.Cells)
	size := func() int { return pick(random, 4, 8, 12, 16, 4+4*random.Intn(64)) }
	for range random.Intn(3) {
		l := random.Perm(n)
		g.Samples = append(g.Samples, api.Sample{Writer: l[0] + 1, Size: size(), Readers: []int{l[1] + 1}})
	}
	for range random.Intn(2*n + 1) {
		l := random.Perm(n)
		g.Queues = append(g.Queues, api.Queue{Writer: l[0] + 1, Reader: l[1] + 1, Size: size(), Depth: 1 + random.Intn(4), Quota: 1 + random.Intn(3), Flow: random.Intn(2) == 0})
	}
}

// broken is configurations of which each breaks another rule of layer 14; else
// they are pair.
func broken() []api.Config {
	var all []api.Config
	for _, change := range []func(g *api.Config){
		func(g *api.Config) { *g = api.Config{} },
		func(g *api.Config) { g.Slots = 0 },
		func(g *api.Config) { g.Major = 0 },
		func(g *api.Config) { g.Cells[1].Name = "a" },
		func(g *api.Config) { g.Cells = nil },
		func(g *api.Config) { g.Cells = cells(9) },
		func(g *api.Config) { g.Cells[0].Entry = 2 },
		func(g *api.Config) { g.Cells[1].Ranges[0].Physical = 32 * page },
		func(g *api.Config) { g.Cells[1].Lines[0] = 1 },
		func(g *api.Config) { g.Samples = []api.Sample{{Writer: 1, Size: 4}} },
		func(g *api.Config) { g.Queues = []api.Queue{{Writer: 1, Reader: 1, Size: 4, Depth: 1, Quota: 1}} },
		func(g *api.Config) { g.OwnPages = 1 },
		func(g *api.Config) { g.Windows = nil },
		func(g *api.Config) { g.Windows[1].Cell = 3 },
		func(g *api.Config) { g.Windows[1].Start = 4999 },
		func(g *api.Config) { g.Windows[0].Length = 236 },
	} {
		g := pair()
		change(&g)
		all = append(all, g)
	}
	return all
}

func anyNumber(random *rand.Rand) uint32 {
	return pick[uint32](random, 0, 0, 1, 3, 4, 4, 5, 7, 8, 11, 31, 32, 256, 257, most-3, most, random.Uint32(), random.Uint32()>>random.Intn(32))
}

func anyTick(random *rand.Rand) uint64 {
	return pick[uint64](random, 0, 1, maxTick, 1<<63, ever, uint64(random.Intn(100)), uint64(random.Intn(20000)), uint64(random.Intn(20000)), uint64(random.Intn(20000)), random.Uint64()>>random.Intn(64))
}

// anything is an observation of any numbers.
func anything(random *rand.Rand) api.Obs {
	cell := pick(random, 1, 2, 1, 2, 1, 2, 1, 2, 1, 2, 3, 4, 0, -1, 9, math.MaxInt, math.MinInt, random.Int())
	kind := pick(random, api.ObsLoad, api.ObsLoad, api.ObsCall, api.ObsCall, api.ObsIrq, api.ObsKind(1+random.Intn(7)), api.ObsKind(1+random.Intn(7)), api.ObsKind(random.Intn(10)), api.ObsKind(random.Int()), math.MinInt, math.MaxInt, -1)
	return api.Obs{Tick: anyTick(random), Cell: cell, Kind: kind, PC: random.Uint32(), A: anyNumber(random), B: anyNumber(random)}
}

// ownerOf is whose window a tick is in, and how many ticks there are up to its
// end less what a step, and that end, can take; 0, if it is in none.
func ownerOf(g api.Config, tick uint64) (cell int, left int) {
	for _, w := range g.Windows {
		start := tick/g.Major*g.Major + w.Start
		if start <= tick && tick < start+w.Length {
			return w.Cell, int(start+w.Length) - int(tick+valid.MaxStep(g, w.Cell)+valid.Switch(g, w.Cell))
		}
	}
	return 0, 0
}

// nextTick is a tick behind another one in a window, mostly one at which a step
// may begin.
func nextTick(random *rand.Rand, g api.Config, tick uint64) uint64 {
	if random.Intn(20) == 0 {
		w := g.Windows[random.Intn(len(g.Windows))] // some window's start, some frame
		tick = (tick/g.Major+uint64(pick(random, 1, random.Intn(3), random.Intn(1<<20))))*g.Major + w.Start
	}
	for {
		tick += 1 + uint64(random.Intn(pick(random, 1, 30, 300)))
		if cell, left := ownerOf(g, tick); cell > 0 && (left >= 0 || random.Intn(60) == 0) {
			return tick
		}
		if cell, left := ownerOf(g, tick); cell > 0 && left < 0 {
			tick += uint64(-left)
		}
		if random.Intn(100) == 0 {
			return tick
		}
	}
}

// next is an observation that may well stand behind those of a list.
func next(random *rand.Rand, g api.Config, l []api.Obs) api.Obs {
	o := api.Obs{PC: 4 * random.Uint32()}
	if len(l) > 0 {
		o.Tick = l[len(l)-1].Tick
	}
	if random.Intn(250) > 0 {
		o.Tick = nextTick(random, g, o.Tick)
	}
	o.Cell, _ = ownerOf(g, o.Tick)
	if random.Intn(250) == 0 {
		o.Cell = pick(random, 1+random.Intn(len(g.Cells)), len(g.Cells)+1, 0, -1)
	}
	o.Kind = pick(random, api.ObsLoad, api.ObsCall, api.ObsCall, api.ObsCall, api.ObsCall, api.ObsIrq, api.ObsClock, api.ObsSay)
	if random.Intn(60) == 0 {
		o.Kind = pick(random, api.ObsFault, api.ObsHalt, 0, 8)
	}
	o.A, o.B = numbersOf(random, g, l, o)
	if random.Intn(250) == 0 {
		o.A = anyNumber(random)
	}
	if random.Intn(250) == 0 {
		o.B = anyNumber(random)
	}
	return o
}

// numbersOf is A and B as an observation of its kind has them.
func numbersOf(random *rand.Rand, g api.Config, l []api.Obs, o api.Obs) (a, b uint32) {
	switch o.Kind {
	case api.ObsLoad:
		return random.Uint32(), random.Uint32()
	case api.ObsCall:
		return callOf(random, g, l, o)
	case api.ObsFault:
		return uint32(1 + random.Intn(6)), random.Uint32()
	case api.ObsIrq:
		if o.Cell >= 1 && o.Cell <= len(g.Cells) && len(g.Cells[o.Cell-1].Lines) > 0 && random.Intn(40) > 0 {
			return uint32(pick(random, g.Cells[o.Cell-1].Lines...)), 0
		}
		return uint32(random.Intn(33)), 0
	case api.ObsClock:
		return uint32(o.Tick), uint32(o.Tick >> 32)
	case api.ObsSay:
		return random.Uint32(), 0
	}
	return 0, 0
}

// callOf is mostly a call that sends, or, if there is something left, receives.
func callOf(random *rand.Rand, g api.Config, l []api.Obs, o api.Obs) (number, answer uint32) {
	switch n := random.Intn(60); {
	case n == 0:
		return halt, 0
	case n < 10:
		return uint32(random.Intn(13)), most
	case n < 35:
		return send, pick[uint32](random, 0, 0, 0, most-2, most)
	}
	longest, left := 0, 0
	for _, q := range g.Queues {
		if q.Reader == o.Cell {
			longest = max(longest, q.Size)
		}
	}
	for _, x := range l {
		if x.Kind == api.ObsCall && x.A == send && x.B == 0 && slices.ContainsFunc(g.Queues, func(q api.Queue) bool { return q.Writer == x.Cell && q.Reader == o.Cell }) {
			left++
		}
		if x.Kind == api.ObsCall && x.A == receive && x.B <= 256 && x.Cell == o.Cell {
			left--
		}
	}
	if left <= 0 && random.Intn(20) > 0 {
		return receive, most - 3
	}
	return receive, uint32(pick(random, longest, 4*random.Intn(longest/4+1), 4*random.Intn(longest/4+1), longest+pick(random, 0, 0, 1, 4)))
}

// anyTrace is so many observations, of which few are wrong.
func anyTrace(random *rand.Rand, g api.Config, n int) []api.Obs {
	var l []api.Obs
	for range n {
		l = append(l, next(random, g, l))
	}
	return l
}

// anyTo is mostly a tick behind all of a list.
func anyTo(random *rand.Rand, l []api.Obs) uint64 {
	if random.Intn(6) > 0 || len(l) == 0 {
		return pick[uint64](random, ever, maxTick, 1<<63)
	}
	return l[random.Intn(len(l))].Tick + uint64(random.Intn(3)) - 1
}
