package monitor_test

import (
	"fmt"
	"math/rand"
	"slices"
	"strings"
	"testing"

	"cloister/api"
	"cloister/monitor"
	"cloister/valid"
)

func pick[T any](random *rand.Rand, l ...T) T { return l[random.Intn(len(l))] }

// anyConfig is any configuration that may be, with small messages, so that a
// window has several of them.
func anyConfig(random *rand.Rand) api.Config {
	g := api.Config{
		Shape: api.Shape{Sets: 1 << random.Intn(5), Ways: 1 + random.Intn(4), Line: 16 << random.Intn(3)},
		Slots: 1 + random.Intn(5),
	}
	n := 1 + random.Intn(4)
	if random.Intn(6) == 0 {
		n = api.MaxCells
	}
	anyCells(random, &g, n)
	if n > 1 {
		anyPorts(random, &g, random.Intn(4), random.Intn(5), 4, 8, 12, 16, 4+4*random.Intn(64))
	}
	layOut(random, &g)
	layWindows(random, &g)
	return g
}

// chattyConfig is one of few cells with several ports.
func chattyConfig(random *rand.Rand) api.Config {
	g := api.Config{Shape: api.Shape{Sets: 8, Ways: 2, Line: 32}, Slots: 4}
	anyCells(random, &g, 2+random.Intn(2))
	anyPorts(random, &g, 1+random.Intn(3), 1+random.Intn(4), 4, 8, 12)
	layOut(random, &g)
	layWindows(random, &g)
	return g
}

func anyCells(random *rand.Rand, g *api.Config, n int) {
	lines := random.Perm(api.Lines)
	for i := range n {
		c := api.Cell{Name: string(rune('a' + i)), Ranges: anyRanges(random)}
		c.Entry, c.Lines = c.Ranges[0].Virtual, lines[3*i:3*i+random.Intn(4)]
		g.Cells = append(g.Cells, c)
	}
}

// anyRanges are pages one behind the other, some left out, of all permissions;
// the first one is for the program. They lie nowhere yet.
func anyRanges(random *rand.Rand) []api.Range {
	at := uint32(0) - page*uint32(1+random.Intn(3))
	l := []api.Range{{Virtual: at, Pages: 1, Perm: pick(random, rx, api.Exec, rwx)}}
	for n := 2 + random.Intn(5); len(l) < n; {
		at += page * uint32(1+random.Intn(2)*random.Intn(3))
		l = append(l, api.Range{Virtual: at, Pages: 1, Perm: pick(random, rw, rw, rw, rw, api.Read, api.Exec)})
		if len(l) == 2 {
			l[1].Perm = rw
		}
		if random.Intn(3) == 0 && at < 1<<20 {
			at = 0x003fe000
		}
	}
	return l
}

func anyPorts(random *rand.Rand, g *api.Config, samples, queues int, sizes ...int) {
	who := func() []int {
		l := random.Perm(len(g.Cells))
		for i := range l {
			l[i]++
		}
		return l
	}
	size := func() int { return pick(random, sizes...) }
	for range samples {
		l := who()
		g.Samples = append(g.Samples, api.Sample{Writer: l[0], Size: size(), Readers: l[1 : 2+random.Intn(len(l)-1)]})
	}
	for range queues {
		l := who()
		g.Queues = append(g.Queues, api.Queue{Writer: l[0], Reader: l[1], Size: size(), Depth: 1 + random.Intn(4), Quota: 1 + random.Intn(3), Flow: random.Intn(2) == 0})
	}
}

// layOut lays all ranges, and the monitor's pages, into memory, in any order.
func layOut(random *rand.Rand, g *api.Config) {
	g.OwnPages = valid.Need(*g) + random.Intn(2)
	places := []*uint32{&g.OwnBase}
	for _, c := range g.Cells {
		for i := range c.Ranges {
			places = append(places, &c.Ranges[i].Physical)
		}
	}
	random.Shuffle(len(places), func(i, j int) { places[i], places[j] = places[j], places[i] })
	for _, at := range places {
		*at = uint32(g.Pages) * page
		g.Pages += 1 + random.Intn(2)
		if at == &g.OwnBase {
			g.Pages += g.OwnPages
		}
	}
}

// layWindows has several windows, some with room for a step alone.
func layWindows(random *rand.Rand, g *api.Config) {
	gap := func() uint64 { return uint64(random.Intn(2) * random.Intn(100)) }
	at := gap()
	for i := range len(g.Cells) + random.Intn(4) {
		w := api.Window{Cell: 1 + random.Intn(len(g.Cells)), Start: at}
		if i < len(g.Cells) {
			w.Cell = i + 1
		}
		w.Length = valid.MaxStep(*g, w.Cell) + valid.Switch(*g, w.Cell) + uint64(pick(random, 0, random.Intn(100), random.Intn(3000)))
		g.Windows = append(g.Windows, w)
		at += w.Length + gap()
	}
	g.Major = at + gap()
}

// writer writes any program of a cell.
type writer struct {
	random *rand.Rand
	g      api.Config
	cell   int
	bases  []api.Range // what the registers from 10 on tell: pages that may be read
	text   strings.Builder
	labels int
}

func (w *writer) line(format string, a ...any) { fmt.Fprintf(&w.text, format+"\n", a...) }

func (w *writer) scratch() int { return 4 + w.random.Intn(6) }

// place is a register that tells a page, and how far behind that.
func (w *writer) place(perm api.Perm, size int) (register, offset int) {
	var l []int
	for i, r := range w.bases {
		if r.Perm&perm != 0 {
			l = append(l, 10+i)
		}
	}
	offset = size * w.random.Intn(page/size)
	if w.random.Intn(3) > 0 { // the same lines again
		offset = size * w.random.Intn(64/size)
	}
	return pick(w.random, l...), offset
}

// anyProgram is a loop of deeds, with a handler of interrupts, as a source. Few
// of its deeds end it.
func anyProgram(random *rand.Rand, g api.Config, cell int) string {
	w := &writer{random: random, g: g, cell: cell}
	for _, r := range g.Cells[cell-1].Ranges[1:] {
		if r.Perm&api.Read != 0 && len(w.bases) < 4 {
			w.bases = append(w.bases, r)
		}
	}
	w.line(".org 0x%x\nli r1, handler\nvec r1", g.Cells[cell-1].Entry)
	for i, r := range w.bases {
		w.line("li r%d, 0x%x", 10+i, r.Virtual)
	}
	if random.Intn(4) > 0 {
		w.line("ei")
	}
	w.line("loop: nop")
	for range 3 + random.Intn(14) {
		w.deed()
	}
	w.line("j loop\nhandler: nop")
	for range random.Intn(3) {
		w.plainDeed()
	}
	w.line("eret")
	return w.text.String()
}

// chattyProgram has little but messages, and waits after each round.
func chattyProgram(random *rand.Rand, g api.Config, cell int) string {
	w := &writer{random: random, g: g, cell: cell, bases: g.Cells[cell-1].Ranges[1:2]}
	w.line(".org 0x%x\nli r10, 0x%x\nloop: nop", g.Cells[cell-1].Entry, w.bases[0].Virtual)
	for range 4 + random.Intn(12) {
		w.portDeed()
		w.plainDeed()
	}
	w.line("wait\nj loop")
	return w.text.String()
}

func chatty(t testing.TB, random *rand.Rand) (api.Config, *monitor.Monitor) {
	t.Helper()
	g := chattyConfig(random)
	var l []api.Load
	for i, c := range g.Cells {
		b := make([]byte, page)
		random.Read(b)
		l = append(l, programAt(t, i+1, c.Entry, chattyProgram(random, g, i+1)), api.Load{Cell: i + 1, At: c.Ranges[1].Virtual, Data: b})
	}
	return g, made(t, g, l...)
}

func (w *writer) deed() {
	switch n := w.random.Intn(60); {
	case n < 26:
		w.plainDeed()
	case n < 44:
		w.portDeed()
	case n < 55:
		w.callDeed()
	case n < 57:
		w.line("%s", pick(w.random, "ei", "di", "wait", "hcall 10"))
	default:
		w.labels++
		w.line("bne r%d, r%d, skip%d", w.scratch(), w.scratch(), w.labels)
		w.line("%s", pick(w.random, "halt", "hcall 11", "lw r4, 2(r0)", "sw r4, -4(r10)", "eret", ".word 0", "jalr r0, r10, 0", "lw r5, 0(r4)", "hcall 77", "wait"))
		w.line("skip%d: nop", w.labels)
	}
}

// plainDeed is sums, loads and stores, the clock.
func (w *writer) plainDeed() {
	d, a, b := w.scratch(), w.scratch(), w.scratch()
	switch w.random.Intn(7) {
	case 0:
		w.line("%s r%d, r%d, r%d", pick(w.random, "add", "sub", "mul", "xor", "divu", "slt"), d, a, b)
	case 1:
		w.line("addi r%d, r%d, %d", d, a, w.random.Intn(2000)-1000)
	case 2:
		size := pick(w.random, 1, 2, 4)
		base, offset := w.place(api.Read, size)
		w.line("%s r%d, %d(r%d)", map[int]string{1: "lb", 2: "lhu", 4: "lw"}[size], d, offset, base)
	case 3:
		size := pick(w.random, 1, 2, 4)
		base, offset := w.place(api.Write, size)
		w.line("%s r%d, %d(r%d)", map[int]string{1: "sb", 2: "sh", 4: "sw"}[size], d, offset, base)
	case 4: // where, hangs on what was loaded
		base, _ := w.place(api.Write, 4)
		w.line("andi r9, r%d, 0xffc\nadd r9, r9, r%d\n%s r%d, 0(r9)", a, base, pick(w.random, "lw", "sw"), w.scratch())
	case 5:
		w.line("clock r%d", d)
	case 6:
		w.line("mv r1, r%d\nhcall 8", a)
	}
}

// portDeed is a message, mostly of a port that is the cell's.
func (w *writer) portDeed() {
	random, number := w.random, 1+w.random.Intn(4)
	port, size := random.Intn(5), 8
	if ports, sizes := ownPorts(w.g, w.cell, number); len(ports) > 0 && random.Intn(20) > 0 {
		i := random.Intn(len(ports))
		port, size = ports[i], sizes[i]
	}
	base, offset := w.place(map[int]api.Perm{write: api.Read, send: api.Read, read: api.Write, receive: api.Write}[number], 4)
	if offset > page-api.MaxMessage && random.Intn(10) > 0 {
		offset = 0
	}
	w.line("addi r1, r0, %d\naddi r2, r%d, %d\naddi r3, r0, %d\nhcall %d", port, base, offset, 4*random.Intn(size/4+1), number)
}

// ownPorts are the ports that a cell may ask by a number, and their Sizes.
func ownPorts(g api.Config, cell, number int) (ports, sizes []int) {
	add := func(i int, own bool, size int) {
		if own {
			ports, sizes = append(ports, i), append(sizes, size)
		}
	}
	for i, s := range g.Samples {
		add(i, number == write && s.Writer == cell || number == read && slices.Contains(s.Readers, cell), s.Size)
	}
	for i, q := range g.Queues {
		add(i, number == send && q.Writer == cell || number == receive && q.Reader == cell, q.Size)
	}
	return ports, sizes
}

func (w *writer) callDeed() {
	if w.random.Intn(4) == 0 {
		w.line("andi r1, r%d, 0x%x\nhcall 5", w.scratch(), w.random.Intn(1<<18))
		return
	}
	w.line("hcall %d", pick(w.random, waiting, whoAmI, left, left, 0, 12))
}

// anyLoad is a program, and any bytes in all other pages, of a cell.
func anyLoad(t testing.TB, random *rand.Rand, g api.Config, cell int) []api.Load {
	t.Helper()
	l := []api.Load{programAt(t, cell, g.Cells[cell-1].Entry, anyProgram(random, g, cell))}
	for _, r := range g.Cells[cell-1].Ranges[1:] {
		b := make([]byte, page)
		random.Read(b)
		l = append(l, api.Load{Cell: cell, At: r.Virtual, Data: b})
	}
	return l
}

func anyLoads(t testing.TB, random *rand.Rand, g api.Config) []api.Load {
	t.Helper()
	var l []api.Load
	for i := range g.Cells {
		l = append(l, anyLoad(t, random, g, i+1)...)
	}
	return l
}

// anyArrivals are interrupts of some of these lines, up to a tick.
func anyArrivals(random *rand.Rand, lines []int, to uint64) []api.Arrival {
	var l []api.Arrival
	for range random.Intn(40) {
		if len(lines) > 0 {
			l = append(l, api.Arrival{Tick: 100 + uint64(random.Int63n(int64(to))), Line: pick(random, lines...)})
		}
	}
	return l
}

func allLines() []int {
	var l []int
	for i := range api.Lines {
		l = append(l, i)
	}
	return l
}
