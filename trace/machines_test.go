package trace_test

import (
	"fmt"
	"math/rand"
	"slices"
	"strings"
	"testing"

	"cloister/api"
	"cloister/asm"
	"cloister/config"
	"cloister/graph"
	"cloister/monitor"
	"cloister/trace"
	"cloister/valid"
)

const (
	page  = api.PageSize
	entry = 0x1000
	data  = 0x8000
)

// anyConfig has cells with a page of code and one of data each, some ports, and
// a window or two for each cell.
func anyConfig(t *testing.T, random *rand.Rand) api.Config {
	t.Helper()
	g := api.Config{
		OwnPages: 32, Pages: 64, Slots: 1 + random.Intn(4),
		Shape: api.Shape{Sets: 1 << random.Intn(5), Ways: 1 + random.Intn(3), Line: 16 << random.Intn(3)},
	}
	n := 2 + random.Intn(5)
	lines := random.Perm(api.Lines)
	for i := range n {
		at := uint32(32+3*i) * page
		g.Cells = append(g.Cells, api.Cell{Name: string(rune('a' + i)), Entry: entry, Lines: lines[2*i : 2*i+random.Intn(3)], Ranges: []api.Range{
			{Virtual: entry, Physical: at, Pages: 1, Perm: api.Read | api.Exec},
			{Virtual: data, Physical: at + page, Pages: 1, Perm: api.Read | api.Write},
		}})
	}
	for range random.Intn(n) {
		l := random.Perm(n)
		g.Samples = append(g.Samples, api.Sample{Writer: l[0] + 1, Size: 4 + 4*random.Intn(4), Readers: []int{l[1] + 1}})
	}
	for range random.Intn(n) {
		l := random.Perm(n)
		g.Queues = append(g.Queues, api.Queue{Writer: l[0] + 1, Reader: l[1] + 1, Size: 4 + 4*random.Intn(4), Depth: 1 + random.Intn(3), Quota: 1 + random.Intn(3), Flow: random.Intn(2) == 0})
	}
	for _, cell := range append(random.Perm(n), random.Perm(n)[:random.Intn(n)]...) {
		w := api.Window{Cell: cell + 1, Start: g.Major + uint64(random.Intn(50))}
		w.Length = valid.MaxStep(g, w.Cell) + valid.Switch(g, w.Cell) + uint64(random.Intn(1500))
		g.Windows, g.Major = append(g.Windows, w), w.Start+w.Length
	}
	if e, where := valid.Check(g); e != api.OK {
		t.Fatalf("valid.Check = %d, %d", e, where)
	}
	return g
}

// message is a hypercall, and the port that it asks.
type message struct{ call, port int }

// messages is those that a cell may ask.
func messages(g api.Config, cell int) []message {
	var l []message
	for i, s := range g.Samples {
		if s.Writer == cell {
			l = append(l, message{1, i})
		}
		if slices.Contains(s.Readers, cell) {
			l = append(l, message{2, i})
		}
	}
	for i, q := range g.Queues {
		if q.Writer == cell {
			l = append(l, message{3, i})
		}
		if q.Reader == cell {
			l = append(l, message{4, i})
		}
	}
	return l
}

// deed is some lines of a program; few of them end it.
func deed(random *rand.Rand, own []message, label int) string {
	d, a, offset := 4+random.Intn(6), 4+random.Intn(6), 4*random.Intn(pick(random, 8, 1000))
	switch random.Intn(15) {
	case 0, 1:
		return fmt.Sprintf("lw r%d, %d(r10)", d, offset)
	case 2:
		return fmt.Sprintf("sw r%d, %d(r10)", d, offset)
	case 3: // the place hangs on what was loaded
		return fmt.Sprintf("andi r9, r%d, 0xffc\nadd r9, r9, r10\n%s r%d, 0(r9)", a, pick(random, "lw", "sw"), d)
	case 4:
		return fmt.Sprintf("clock r%d", d)
	case 5:
		return fmt.Sprintf("mv r1, r%d\nhcall 8", d)
	case 6:
		return fmt.Sprintf("xor r%d, r%d, r%d\naddi r%d, r%d, %d", d, d, a, a, a, random.Intn(500))
	case 7:
		return fmt.Sprintf("hcall %d", pick(random, 6, 7, 9, 9, 12))
	case 8:
		return fmt.Sprintf("bne r%d, r%d, over%d\n%s\nover%d: nop", d, a, label, pick(random, "halt", "hcall 11", "lw r4, 2(r10)", "lw r4, 0(r0)", ".word 0", "sw r4, 0(r0)", "jalr r0, r10, 0", "wait"), label)
	case 9:
		return pick(random, "ei", "di", "wait", "hcall 10")
	}
	m := message{1 + random.Intn(4), random.Intn(4)}
	if len(own) > 0 && random.Intn(10) > 0 {
		m = pick(random, own...)
	}
	return fmt.Sprintf("addi r1, r0, %d\naddi r2, r10, %d\naddi r3, r0, %d\nhcall %d\nlw r%d, %d(r10)", m.port, offset, 4*random.Intn(4), m.call, d, offset)
}

// anyLoad is a program, and data, of a cell.
func anyLoad(t *testing.T, random *rand.Rand, g api.Config, cell int) []api.Load {
	t.Helper()
	source := fmt.Sprintf(".org %d\nli r10, %d\nli r1, handler\nvec r1\nei\nloop: nop\n", entry, data)
	own := messages(g, cell)
	for label := range 5 + random.Intn(20) {
		source += deed(random, own, label) + "\n"
	}
	m, e, line := asm.Assemble(source + "j loop\nhandler: lw r4, 0(r10)\neret")
	if e != api.OK {
		t.Fatalf("asm.Assemble = %d, line %d", e, line)
	}
	var code []byte
	for _, w := range m.Words {
		code = append(code, byte(w), byte(w>>8), byte(w>>16), byte(w>>24))
	}
	bytes := make([]byte, page)
	random.Read(bytes)
	return []api.Load{{Cell: cell, At: entry, Data: code}, {Cell: cell, At: data, Data: bytes}}
}

func anyArrivals(random *rand.Rand, lines []int, to uint64) []api.Arrival {
	var l []api.Arrival
	for range random.Intn(12) {
		if len(lines) > 0 {
			l = append(l, api.Arrival{Tick: 100 + uint64(random.Int63n(int64(to))), Line: pick(random, lines...)})
		}
	}
	return l
}

// observed is what a machine tells up to a tick.
func observed(t *testing.T, g api.Config, loads []api.Load, comes []api.Arrival, to uint64) []api.Obs {
	t.Helper()
	b, e := config.Encode(g)
	if e != api.OK {
		t.Fatalf("config.Encode = %d", e)
	}
	m, e := monitor.New(b, loads...)
	if e != api.OK {
		t.Fatalf("monitor.New = %d", e)
	}
	if e := m.Script(comes...); e != api.OK {
		t.Fatalf("Script = %d", e)
	}
	l, e := m.Run(to)
	if e != api.OK {
		t.Fatalf("Run(%d) = %d", to, e)
	}
	return l
}

// anyRuns is two runs of a machine, which agree on some of its cells alone.
func anyRuns(t *testing.T, random *rand.Rand, g api.Config, agree []int) (one, two []api.Obs) {
	t.Helper()
	to := g.Major + uint64(random.Int63n(int64(5*g.Major)))
	var loads, others []api.Load
	nobodys := random.Perm(api.Lines)
	for _, c := range g.Cells {
		nobodys = slices.DeleteFunc(nobodys, func(line int) bool { return slices.Contains(c.Lines, line) })
	}
	comes, come := anyArrivals(random, nobodys, to), anyArrivals(random, nobodys, to)
	for i, c := range g.Cells {
		l, a := anyLoad(t, random, g, i+1), anyArrivals(random, c.Lines, to)
		loads, comes = append(loads, l...), append(comes, a...)
		if !slices.Contains(agree, i+1) {
			l, a = anyLoad(t, random, g, i+1), anyArrivals(random, c.Lines, to)
		}
		others, come = append(others, l...), append(come, a...)
	}
	return observed(t, g, loads, comes, to), observed(t, g, others, come, to)
}

// readAgain is observations that were written and read, as bytes and as a text.
func readAgain(t *testing.T, l []api.Obs) []api.Obs {
	t.Helper()
	b, e := trace.Encode(l...)
	if e != api.OK {
		t.Fatalf("Encode of what a machine tells = %d", e)
	}
	l, e, at := trace.Decode(b)
	if e != api.OK {
		t.Fatalf("Decode of what a machine tells = %d, %d", e, at)
	}
	s, e := trace.Text(l...)
	if e != api.OK {
		t.Fatalf("Text of what a machine tells = %d", e)
	}
	l, e, line := trace.Parse(s)
	if e != api.OK {
		t.Fatalf("Parse of what a machine tells = %d, %d", e, line)
	}
	return l
}

// TestNoninterference: T1. Two runs agree on a cell, and on those from which a
// path leads to it: its observations do not part, and have one digest, also of
// traces that were written and read again.
func TestNoninterference(t *testing.T) {
	random := rand.New(rand.NewSource(2215))
	told, others := map[api.ObsKind]int{}, 0
	for i := range 300 {
		g := anyConfig(t, random)
		cell := 1 + random.Intn(len(g.Cells))
		sources := graph.Sources(g, cell)
		one, two := anyRuns(t, random, g, sources)
		for o := range trace.Of(cell, one...) {
			told[o.Kind]++
		}
		for c := range g.Cells {
			if trace.Part(c+1, one, two) >= 0 {
				others++
			}
		}
		if at := trace.Part(cell, one, two); at != -1 || trace.Digest(cell, one...) != trace.Digest(cell, two...) {
			t.Fatalf("machine %d: cell %d, on which %v bear, observes something else from its observation %d on", i, cell, sources, at)
		}
		again := readAgain(t, two)
		if !slices.Equal(again, two) {
			t.Fatalf("machine %d: a trace that was read again is another one", i)
		}
		if at := trace.Part(cell, one, again); at != -1 || trace.Digest(cell, one...) != trace.Digest(cell, again...) {
			t.Fatalf("machine %d: read again, cell %d observes something else from its observation %d on", i, cell, at)
		}
	}
	for kind := api.ObsLoad; kind <= api.ObsSay; kind++ {
		if told[kind] < 10 {
			t.Errorf("%v of each kind were told: the test asks too little", told)
		}
	}
	if others < 200 {
		t.Errorf("%d cells observed something else: the test asks too little", others)
	}
}

// TestWhoBearsIsSeen: where those that bear on a cell are others, it sees it
// now and then: else the theorem would be an empty one.
func TestWhoBearsIsSeen(t *testing.T) {
	random := rand.New(rand.NewSource(2216))
	parted, digests := 0, 0
	for range 150 {
		g := anyConfig(t, random)
		cell := 1 + random.Intn(len(g.Cells))
		one, two := anyRuns(t, random, g, []int{cell})
		if trace.Part(cell, one, two) >= 0 {
			parted++
			if len(graph.Sources(g, cell)) == 1 {
				t.Fatalf("cell %d observes something else, and nobody bears on it", cell)
			}
		}
		if trace.Digest(cell, one...) != trace.Digest(cell, two...) {
			digests++
		}
	}
	if parted < 15 || digests != parted {
		t.Errorf("%d parted, %d have another digest", parted, digests)
	}
}

// TestTraceOfAMachine: its text, by hand.
func TestTraceOfAMachine(t *testing.T) {
	g := api.Config{
		Pages: 8, OwnPages: 3, Shape: api.Shape{Sets: 4, Ways: 2, Line: 32}, Slots: 8, Major: 10000,
		Cells: []api.Cell{{Name: "a", Entry: entry, Ranges: []api.Range{
			{Virtual: entry, Physical: 4 * page, Pages: 1, Perm: api.Read | api.Exec},
		}}},
		Windows: []api.Window{{Cell: 1, Length: 5000}},
	}
	m, e, _ := asm.Assemble(".org 0x1000\nhcall 7\nlw r1, 0x1000(r0)\nlw r1, 0(r0)")
	if e != api.OK {
		t.Fatal(e)
	}
	l := api.Load{Cell: 1, At: entry}
	for _, w := range m.Words {
		l.Data = append(l.Data, byte(w), byte(w>>8), byte(w>>16), byte(w>>24))
	}
	s, e := trace.Text(observed(t, g, []api.Load{l}, nil, 20000)...)
	want := strings.Join([]string{
		"0 1 call 00001000 00000007 00000001",
		fmt.Sprintf("47 1 load 00001004 00001000 %08x", m.Words[0]),
		"50 1 fault 00001008 unmapped 00000000",
	}, "\n") + "\n"
	if s != want || e != api.OK {
		t.Errorf("Text = %q, %d, want %q", s, e, want)
	}
}
