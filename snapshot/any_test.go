package snapshot_test

import (
	"fmt"
	"math/rand"
	"slices"
	"testing"

	"cloister/api"
	"cloister/asm"
	"cloister/config"
	"cloister/monitor"
	"cloister/snapshot"
	"cloister/valid"
)

const (
	page  = api.PageSize
	entry = 0x1000
	data  = 0x8000
)

// anyConfig has cells with a page of code and one of data each, some ports, and
// a window or two for each cell.
func anyConfig(t *testing.T, random *rand.Rand) api.Config {
	t.Helper()
	g := api.Config{
		OwnPages: 32, Pages: 64, Slots: 1 + random.Intn(4),
		Shape: api.Shape{Sets: 1 << random.Intn(5), Ways: 1 + random.Intn(3), Line: 16 << random.Intn(3)},
	}
	n := 1 + random.Intn(5)
	lines := random.Perm(api.Lines)
	for i := range n {
		at := uint32(32+3*i) * page
		g.Cells = append(g.Cells, api.Cell{Name: string(rune('a' + i)), Entry: entry, Lines: lines[3*i : 3*i+random.Intn(4)], Ranges: []api.Range{
			{Virtual: entry, Physical: at, Pages: 1, Perm: api.Read | api.Exec},
			{Virtual: data, Physical: at + page, Pages: 1, Perm: api.Read | api.Write},
		}})
	}
	for range random.Intn(n) {
		l := random.Perm(n)
		g.Samples = append(g.Samples, api.Sample{Writer: l[0] + 1, Size: 4 + 4*random.Intn(8), Readers: []int{l[1] + 1}})
	}
	for range random.Intn(n) {
		l := random.Perm(n)
		g.Queues = append(g.Queues, api.Queue{Writer: l[0] + 1, Reader: l[1] + 1, Size: 4 + 4*random.Intn(8), Depth: 1 + random.Intn(3), Quota: 1 + random.Intn(3), Flow: random.Intn(2) == 0})
	}
	for _, cell := range append(random.Perm(n), random.Perm(n)[:random.Intn(n)]...) {
		w := api.Window{Cell: cell + 1, Start: g.Major + uint64(random.Intn(3)*random.Intn(50))}
		w.Length = valid.MaxStep(g, w.Cell) + valid.Switch(g, w.Cell) + uint64(random.Intn(1500))
		g.Windows, g.Major = append(g.Windows, w), w.Start+w.Length
	}
	g.Major += uint64(random.Intn(2) * random.Intn(100))
	if e, where := valid.Check(g); e != api.OK {
		t.Fatalf("valid.Check = %d, %d", e, where)
	}
	return g
}

// message is a hypercall, the port that it asks, and how many bytes it takes.
type message struct{ call, port, size int }

// messages is those that a cell may ask.
func messages(g api.Config, cell int) []message {
	var l []message
	for i, s := range g.Samples {
		if s.Writer == cell {
			l = append(l, message{1, i, s.Size})
		}
		if slices.Contains(s.Readers, cell) {
			l = append(l, message{2, i, s.Size})
		}
	}
	for i, q := range g.Queues {
		if q.Writer == cell {
			l = append(l, message{3, i, q.Size})
		}
		if q.Reader == cell {
			l = append(l, message{4, i, q.Size})
		}
	}
	return l
}

// deed is some lines of a program; few of them end it.
func deed(random *rand.Rand, own []message, label int) string {
	d, a, offset := 4+random.Intn(6), 4+random.Intn(6), 4*random.Intn(pick(random, 8, 1000))
	switch random.Intn(15) {
	case 0, 1:
		return fmt.Sprintf("lw r%d, %d(r10)", d, offset)
	case 2:
		return fmt.Sprintf("sw r%d, %d(r10)", d, offset)
	case 3: // the place hangs on what was loaded
		return fmt.Sprintf("andi r9, r%d, 0xffc\nadd r9, r9, r10\n%s r%d, 0(r9)", a, pick(random, "lw", "sw"), d)
	case 4:
		return fmt.Sprintf("clock r%d", d)
	case 5:
		return fmt.Sprintf("mv r1, r%d\nhcall 8", d)
	case 6:
		return fmt.Sprintf("xor r%d, r%d, r%d\naddi r%d, r%d, %d", d, d, a, a, a, random.Intn(500))
	case 7: // masks of interrupts, too
		return fmt.Sprintf("addi r1, r0, %d\nhcall %d", random.Intn(40), pick(random, 5, 6, 7, 9, 12))
	case 8:
		return fmt.Sprintf("bne r%d, r%d, over%d\n%s\nover%d: nop", d, a, label, pick(random, "halt", "hcall 11", "lw r4, 2(r10)", "lw r4, 0(r0)", ".word 0", "sw r4, 0(r0)", "jalr r0, r10, 0", "wait"), label)
	case 9:
		return pick(random, "ei", "di", "wait", "hcall 10")
	}
	if len(own) == 0 {
		return "nop"
	}
	m := pick(random, own...)
	return fmt.Sprintf("addi r1, r0, %d\naddi r2, r10, %d\naddi r3, r0, %d\nhcall %d\nlw r%d, %d(r10)", m.port, offset, 4*random.Intn(m.size/4+1), m.call, d, offset)
}

// anyLoad is a program, and data, of a cell.
func anyLoad(t *testing.T, random *rand.Rand, g api.Config, cell int) []api.Load {
	t.Helper()
	source := fmt.Sprintf(".org %d\nli r10, %d\nli r1, handler\nvec r1\nei\nloop: nop\n", entry, data)
	own := messages(g, cell)
	for label := range 5 + random.Intn(20) {
		source += deed(random, own, label) + "\n"
	}
	bytes := make([]byte, page)
	random.Read(bytes)
	return []api.Load{coded(t, cell, source+"j loop\nhandler: lw r4, 0(r10)\nsw r4, 8(r10)\nmv r1, r4\neret"), {Cell: cell, At: data, Data: bytes}}
}

// coded is a program as it is laid into a cell's memory.
func coded(t *testing.T, cell int, source string) api.Load {
	t.Helper()
	m, e, line := asm.Assemble(source)
	if e != api.OK {
		t.Fatalf("asm.Assemble = %d, line %d", e, line)
	}
	l := api.Load{Cell: cell, At: entry}
	for _, w := range m.Words {
		l.Data = append(l.Data, byte(w), byte(w>>8), byte(w>>16), byte(w>>24))
	}
	return l
}

// plan is all that a machine is made of.
type plan struct {
	blob  []byte
	loads []api.Load
	comes []api.Arrival
	to    uint64 // up to which it is run
}

func anyPlan(t *testing.T, random *rand.Rand) plan {
	t.Helper()
	g := anyConfig(t, random)
	p := plan{blob: blobOf(t, g), to: g.Major + uint64(random.Int63n(int64(4*g.Major)))}
	for i := range g.Cells {
		p.loads = append(p.loads, anyLoad(t, random, g, i+1)...)
	}
	for range random.Intn(40) {
		p.comes = append(p.comes, api.Arrival{Tick: 100 + uint64(random.Int63n(int64(p.to+p.to/4))), Line: random.Intn(api.Lines)})
	}
	return p
}

func blobOf(t *testing.T, g api.Config) []byte {
	t.Helper()
	b, e := config.Encode(g)
	if e != api.OK {
		t.Fatalf("config.Encode = %d", e)
	}
	return b
}

func (p plan) begun(t *testing.T) *monitor.Monitor {
	t.Helper()
	m, e := monitor.New(p.blob, p.loads...)
	if e != api.OK {
		t.Fatalf("monitor.New = %d", e)
	}
	if e := m.Script(p.comes...); e != api.OK {
		t.Fatalf("Script = %d", e)
	}
	return m
}

func run(t *testing.T, m *monitor.Monitor, to uint64) []api.Obs {
	t.Helper()
	l, e := m.Run(to)
	if e != api.OK {
		t.Fatalf("Run(%d) at %d = %d", to, m.Now(), e)
	}
	return l
}

func saved(t *testing.T, m *monitor.Monitor) []byte {
	t.Helper()
	b, e := snapshot.Save(m)
	if e != api.OK {
		t.Fatalf("Save at %d = %d", m.Now(), e)
	}
	return b
}

func loaded(t *testing.T, b []byte) *monitor.Monitor {
	t.Helper()
	m, e := snapshot.Load(b)
	if m == nil || e != api.OK {
		t.Fatalf("Load = %t, %d", m != nil, e)
	}
	return m
}
