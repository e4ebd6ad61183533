package monitor_test

import (
	"bytes"
	"slices"
	"testing"

	"cloister/api"
	"cloister/asm"
	"cloister/config"
	"cloister/monitor"
	"cloister/valid"
)

const (
	page  = api.PageSize
	entry = 0x1000 // where programs stand
	data  = 0x8000 // two pages that a cell may write
	rx    = api.Read | api.Exec
	rw    = api.Read | api.Write
	rwx   = api.Read | api.Write | api.Exec
)

// Hypercalls and codes, as chapter 20 has them.
const (
	write   = 1
	read    = 2
	send    = 3
	receive = 4
	mask    = 5
	waiting = 6
	whoAmI  = 7
	say     = 8
	left    = 9
	wait    = 10
	halt    = 11

	who     = 4294967295
	full    = 4294967293
	nothing = 4294967292
)

// three is a configuration of three cells with all kinds of ports. Windows:
// cell 1 from 100 to 6100, cell 2 from there to 12100, cell 1 from 15000 to
// 20000, cell 3 from 21000 to 30000, where the next frame starts.
func three() api.Config {
	cell := func(name string, at uint32, lines ...int) api.Cell {
		return api.Cell{Name: name, Entry: entry, Lines: lines, Ranges: []api.Range{
			{Virtual: entry, Physical: at * page, Pages: 1, Perm: rx},
			{Virtual: data, Physical: (at + 1) * page, Pages: 2, Perm: rw},
			{Virtual: 0xfffff000, Physical: (at + 3) * page, Pages: 1, Perm: api.Read},
			{Virtual: 0x6000, Physical: (at + 4) * page, Pages: 1, Perm: api.Exec},
		}}
	}
	return api.Config{
		Pages: 64, OwnBase: 2 * page, OwnPages: 30,
		Shape: api.Shape{Sets: 16, Ways: 4, Line: 16}, Slots: 4, Major: 30000,
		Cells: []api.Cell{cell("one", 32, 3, 4, 31), cell("two", 40, 5, 0), cell("three", 50)},
		Windows: []api.Window{
			{Cell: 1, Start: 100, Length: 6000}, {Cell: 2, Start: 6100, Length: 6000},
			{Cell: 1, Start: 15000, Length: 5000}, {Cell: 3, Start: 21000, Length: 9000},
		},
		Samples: []api.Sample{
			{Writer: 1, Size: 64, Readers: []int{2, 3}},
			{Writer: 3, Size: 4, Readers: []int{1}},
		},
		Queues: []api.Queue{
			{Writer: 1, Reader: 2, Size: 8, Depth: 2, Quota: 3},
			{Writer: 2, Reader: 1, Size: 16, Depth: 2, Quota: 1, Flow: true},
		},
	}
}

// alone is one cell with one window, which starts at once.
func alone(length, major uint64) api.Config {
	g := three()
	g.Cells, g.Samples, g.Queues = g.Cells[:1], nil, nil
	g.Windows, g.Major = []api.Window{{Cell: 1, Length: length}}, major
	return g
}

func blobOf(t testing.TB, g api.Config) []byte {
	t.Helper()
	if e, where := valid.Check(g); e != api.OK {
		t.Fatalf("valid.Check(%+v) = %d, %d", g, e, where)
	}
	b, e := config.Encode(g)
	if e != api.OK {
		t.Fatalf("config.Encode = %d", e)
	}
	return b
}

// programAt is a program's words, as they are laid into a cell.
func programAt(t testing.TB, cell int, at uint32, source string) api.Load {
	t.Helper()
	m, e, line := asm.Assemble(source)
	if e != api.OK {
		t.Fatalf("asm.Assemble of %q = %d, line %d", source, e, line)
	}
	l := api.Load{Cell: cell, At: at}
	for _, w := range m.Words {
		l.Data = append(l.Data, byte(w), byte(w>>8), byte(w>>16), byte(w>>24))
	}
	return l
}

func program(t testing.TB, cell int, source string) api.Load {
	t.Helper()
	return programAt(t, cell, entry, source)
}

func made(t testing.TB, g api.Config, l ...api.Load) *monitor.Monitor {
	t.Helper()
	m, e := monitor.New(blobOf(t, g), l...)
	if e != api.OK || m == nil {
		t.Fatalf("New = %d", e)
	}
	return m
}

// programmed is a machine whose cells have these programs; those that are left
// out spin.
func programmed(t testing.TB, g api.Config, sources ...string) *monitor.Monitor {
	t.Helper()
	var l []api.Load
	for i := range g.Cells {
		source := "j 0"
		if i < len(sources) {
			source = sources[i]
		}
		l = append(l, programAt(t, i+1, g.Cells[i].Entry, source))
	}
	return made(t, g, l...)
}

func resumed(t testing.TB, s api.State) *monitor.Monitor {
	t.Helper()
	m, e := monitor.Resume(s)
	if e != api.OK || m == nil {
		t.Fatalf("Resume at %d = %d", s.Tick, e)
	}
	return m
}

func run(t testing.TB, m *monitor.Monitor, to uint64) []api.Obs {
	t.Helper()
	l, e := m.Run(to)
	if e != api.OK {
		t.Fatalf("Run(%d) at %d = %d", to, m.Now(), e)
	}
	return l
}

func wantRun(t testing.TB, m *monitor.Monitor, to uint64, want ...api.Obs) {
	t.Helper()
	if got := run(t, m, to); !slices.Equal(got, want) {
		t.Errorf("Run(%d) = %+v, want %+v", to, got, want)
	}
}

func wantNow(t testing.TB, m *monitor.Monitor, want uint64) {
	t.Helper()
	if got := m.Now(); got != want {
		t.Errorf("Now = %d, want %d", got, want)
	}
}

func script(t testing.TB, m *monitor.Monitor, l ...api.Arrival) {
	t.Helper()
	if e := m.Script(l...); e != api.OK {
		t.Fatalf("Script(%v) at %d = %d", l, m.Now(), e)
	}
}

func cellOf(t testing.TB, m *monitor.Monitor, cell int) api.CellState {
	t.Helper()
	c, e := m.Cell(cell)
	if e != api.OK {
		t.Fatalf("Cell(%d) = %d", cell, e)
	}
	return c
}

func peeked(t testing.TB, m *monitor.Monitor, cell int, at uint32, n int) []byte {
	t.Helper()
	b, e := m.Peek(cell, at, n)
	if e != api.OK || len(b) != n {
		t.Fatalf("Peek(%d, %#x, %d) = %v, %d", cell, at, n, b, e)
	}
	return b
}

func sameMessage(a, b api.Message) bool { return a.Tick == b.Tick && bytes.Equal(a.Data, b.Data) }

func sameSample(a, b api.SampleState) bool {
	return a.There == b.There && a.Waits == b.Waits && sameMessage(a.Last, b.Last) && sameMessage(a.Next, b.Next)
}

func sameQueue(a, b api.QueueState) bool {
	return a.Stat == b.Stat && slices.EqualFunc(a.Queued, b.Queued, sameMessage) && slices.EqualFunc(a.Staged, b.Staged, sameMessage)
}

func samePage(a, b api.Page) bool { return a.Number == b.Number && bytes.Equal(a.Bytes, b.Bytes) }

// unlike is the name of a part in which two states differ; nothing: in none.
func unlike(a, b api.State) string {
	for _, part := range []struct {
		name string
		same bool
	}{
		{"Blob", bytes.Equal(a.Blob, b.Blob)},
		{"Tick", a.Tick == b.Tick},
		{"Waits", a.Waits == b.Waits},
		{"Pages", slices.EqualFunc(a.Pages, b.Pages, samePage)},
		{"Cells", slices.Equal(a.Cells, b.Cells)},
		{"Lines", slices.Equal(a.Lines, b.Lines)},
		{"Slots", slices.Equal(a.Slots, b.Slots)},
		{"Gic", a.Gic == b.Gic},
		{"Samples", slices.EqualFunc(a.Samples, b.Samples, sameSample)},
		{"Queues", slices.EqualFunc(a.Queues, b.Queues, sameQueue)},
		{"Arrivals", slices.Equal(a.Arrivals, b.Arrivals)},
	} {
		if !part.same {
			return part.name
		}
	}
	return ""
}

func wantState(t testing.TB, m *monitor.Monitor, want api.State) {
	t.Helper()
	if part := unlike(m.State(), want); part != "" {
		t.Errorf("at %d another state, by its %s", m.Now(), part)
	}
}

// TestExamples: those of the chapter.
func TestExamples(t *testing.T) {
	m := programmed(t, alone(1000, 2000), "halt")
	wantNow(t, m, 0)
	wantRun(t, m, 1, api.Obs{Cell: 1, Kind: api.ObsHalt, PC: entry})
	wantNow(t, m, 1000)
	wantRun(t, m, 1001)
	wantNow(t, m, 3000)

	m = programmed(t, alone(1000, 2000), "beq r0, r0, 0")
	wantRun(t, m, 100000)

	m = programmed(t, alone(1000, 2000), "hcall 7\nhalt")
	wantRun(t, m, 1, api.Obs{Cell: 1, Kind: api.ObsCall, PC: entry, A: 7, B: 1})

	m = programmed(t, alone(2000, 4000), "ei\nj 0")
	script(t, m, api.Arrival{Tick: 500, Line: 31})
	l := run(t, m, 502)
	if len(l) != 1 || l[0].Kind != api.ObsIrq || l[0].A != 31 || l[0].Tick < 500 || l[0].Tick > 501 {
		t.Errorf("a line at 500: %+v", l)
	}
}

// TestExamplesOfTheWhole: those of DOC.md that are a monitor's.
func TestExamplesOfTheWhole(t *testing.T) {
	g := three()
	g.Cells, g.Queues, g.Samples = g.Cells[:2], g.Queues[:1], g.Samples[:1]
	g.Samples[0].Readers, g.Queues[0].Quota = []int{2}, 1
	g.Windows, g.Major = []api.Window{{Cell: 1, Length: 5000}, {Cell: 2, Start: 5000, Length: 5000}}, 10000
	m := programmed(t, g, "halt", "hcall 7\nwait\nhcall 7\nhalt")
	wantRun(t, m, 20000, // the first, and the fifth
		api.Obs{Cell: 1, Kind: api.ObsHalt, PC: entry},
		api.Obs{Tick: 5000, Cell: 2, Kind: api.ObsCall, PC: entry, A: whoAmI, B: 2},
		api.Obs{Tick: 15000, Cell: 2, Kind: api.ObsCall, PC: entry + 8, A: whoAmI, B: 2},
		api.Obs{Tick: 15000 + 37 + 10, Cell: 2, Kind: api.ObsHalt, PC: entry + 12})

	m = programmed(t, g, "nop\nlw r1, 0(r0)\nhcall 7") // the second
	wantRun(t, m, 60000, api.Obs{Tick: 37, Cell: 1, Kind: api.ObsFault, PC: entry + 4, A: uint32(api.FaultUnmapped)})

	writer := "li r2, 0x8000\naddi r3, r0, 4\nhcall 1\nhalt"
	m = programmed(t, g, writer, "li r2, 0x8000\nhcall 2\nhalt") // the third
	l := run(t, m, 10000)
	if len(l) != 4 || l[0].A != write || l[0].B != 0 || l[2].A != read || l[2].B != 4 {
		t.Fatalf("a message that is written and read: %+v", l)
	}
	if c := cellOf(t, m, 2); uint64(c.Regs.R[2]) != l[0].Tick || c.Regs.R[3] != 0 {
		t.Errorf("a message of %d was written at %d", c.Regs.R[2], l[0].Tick)
	}

	m = programmed(t, g, "li r2, 0x8000\nhcall 3\nmv r1, r0\nhcall 3\nhalt") // the fourth
	l = run(t, m, 5000)
	if len(l) != 3 || l[0].B != 0 || l[1].B != full {
		t.Errorf("two messages of a quota of 1: %+v", l)
	}

	m = programmed(t, g, "ei\nj 0") // the sixth
	script(t, m, api.Arrival{Tick: 7000, Line: 3})
	wantRun(t, m, 20000, api.Obs{Tick: 10000, Cell: 1, Kind: api.ObsIrq, PC: entry + 4, A: 3},
		api.Obs{Tick: 10004, Cell: 1, Kind: api.ObsFault, A: uint32(api.FaultUnmapped)})

	m = programmed(t, g, "clock r1\nclock r1\nhalt") // the seventh
	l = run(t, m, 5000)
	if len(l) != 3 || l[0].A != 0 || l[1].A != 37 {
		t.Errorf("the first step of a window: %+v", l)
	}
}

func TestErrorNumbers(t *testing.T) {
	for want, e := range map[api.Errno]api.Errno{210: api.ErrMonitorArg, 211: api.ErrMonitorPast, 212: api.ErrMonitorOver, 213: api.ErrMonitorForm} {
		if e != want {
			t.Errorf("an error has the number %d, want %d", e, want)
		}
	}
}
