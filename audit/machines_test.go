package audit_test

import (
	"fmt"
	"math/rand"
	"slices"
	"testing"

	"cloister/api"
	"cloister/asm"
	"cloister/audit"
	"cloister/config"
	"cloister/monitor"
)

// message is a hypercall, and the port that it asks.
type message struct{ call, port, size int }

// messages is those that a cell may ask.
func messages(g api.Config, cell int) []message {
	var l []message
	for i, s := range g.Samples {
		if s.Writer == cell {
			l = append(l, message{1, i, s.Size})
		}
		if slices.Contains(s.Readers, cell) {
			l = append(l, message{2, i, s.Size})
		}
	}
	for i, q := range g.Queues {
		if q.Writer == cell {
			l = append(l, message{send, i, q.Size}, message{send, i, q.Size})
		}
		if q.Reader == cell {
			l = append(l, message{receive, i, q.Size}, message{receive, i, q.Size})
		}
	}
	return l
}

// deed is some lines of a program; few of them end it.
func deed(random *rand.Rand, own []message, label int) string {
	d, a, offset := 4+random.Intn(6), 4+random.Intn(6), 4*random.Intn(pick(random, 8, 900))
	switch random.Intn(18) {
	case 0:
		return fmt.Sprintf("lw r%d, %d(r10)", d, offset)
	case 1:
		return fmt.Sprintf("sw r%d, %d(r10)", d, offset)
	case 2: // the place hangs on what was loaded
		return fmt.Sprintf("andi r9, r%d, 0xffc\nadd r9, r9, r10\n%s r%d, 0(r9)", a, pick(random, "lw", "sw"), d)
	case 3:
		return fmt.Sprintf("clock r%d", d)
	case 4:
		return fmt.Sprintf("mv r1, r%d\nhcall 8", d)
	case 5:
		return fmt.Sprintf("xor r%d, r%d, r%d\naddi r%d, r%d, %d", d, d, a, a, a, random.Intn(500))
	case 6:
		return fmt.Sprintf("andi r1, r%d, 0xff\nhcall %d", d, pick(random, 0, 5, 6, 7, 9, 12))
	case 7:
		return fmt.Sprintf("bne r%d, r%d, over%d\n%s\nover%d: nop", d, a, label, pick(random, "halt", "hcall 11", "lw r4, 2(r10)", "lw r4, 0(r0)", ".word 0", "sw r4, 0(r0)", "jalr r0, r10, 0", "wait"), label)
	case 8:
		return pick(random, "ei", "di", "wait", "hcall 10")
	case 9: // where there may be no memory
		m := message{1 + random.Intn(4), random.Intn(4), 8}
		return fmt.Sprintf("bne r%d, r%d, over%d\naddi r1, r0, %d\nli r2, %d\naddi r3, r0, %d\nhcall %d\nover%d: nop", d, a, label, m.port, data+page-4, m.size, m.call, label)
	}
	m := message{1 + random.Intn(4), random.Intn(4), 8}
	if len(own) > 0 && random.Intn(10) > 0 {
		m = pick(random, own...)
	}
	return fmt.Sprintf("addi r1, r0, %d\naddi r2, r10, %d\naddi r3, r0, %d\nhcall %d", m.port, offset, 4*random.Intn(min(m.size/4+2, 20)), m.call)
}

// codeOf is a program as it is laid into a cell's memory.
func codeOf(t testing.TB, cell int, source string) api.Load {
	t.Helper()
	m, e, line := asm.Assemble(source)
	if e != api.OK {
		t.Fatalf("asm.Assemble = %d, line %d of %s", e, line, source)
	}
	l := api.Load{Cell: cell, At: entry}
	for _, w := range m.Words {
		l.Data = append(l.Data, byte(w), byte(w>>8), byte(w>>16), byte(w>>24))
	}
	return l
}

// anyLoad is a program, and data, of a cell.
func anyLoad(t testing.TB, random *rand.Rand, g api.Config, cell int) []api.Load {
	t.Helper()
	source := fmt.Sprintf(".org %d\nli r10, %d\nli r1, handler\nvec r1\nei\nloop: nop\n", entry, data)
	own := messages(g, cell)
	for label := range 5 + random.Intn(20) {
		source += deed(random, own, label) + "\n"
	}
	bytes := make([]byte, page)
	random.Read(bytes)
	return []api.Load{codeOf(t, cell, source+"j loop\nhandler: lw r4, 0(r10)\neret"), {Cell: cell, At: data, Data: bytes}}
}

func anyLoads(t testing.TB, random *rand.Rand, g api.Config) []api.Load {
	var l []api.Load
	for i := range g.Cells {
		l = append(l, anyLoad(t, random, g, i+1)...)
	}
	return l
}

// made is a machine with its programs.
func made(t testing.TB, g api.Config, l ...api.Load) *monitor.Monitor {
	t.Helper()
	b, e := config.Encode(g)
	if e != api.OK {
		t.Fatalf("config.Encode = %d", e)
	}
	m, e := monitor.New(b, l...)
	if e != api.OK {
		t.Fatalf("monitor.New = %d", e)
	}
	return m
}

// interrupt has any interrupts come to a machine, from its tick on.
func interrupt(t testing.TB, random *rand.Rand, m *monitor.Monitor, ticks uint64) {
	t.Helper()
	for range random.Intn(20) {
		come := m.Now() + uint64(random.Int63n(int64(ticks)))
		if e := m.Script(api.Arrival{Tick: min(come, maxTick), Line: random.Intn(api.Lines)}); e != api.OK {
			t.Fatalf("Script = %d", e)
		}
	}
}

func run(t testing.TB, m *monitor.Monitor, to uint64) []api.Obs {
	t.Helper()
	l, e := m.Run(to)
	if e != api.OK {
		t.Fatalf("Run(%d) = %d", to, e)
	}
	return l
}

// tally is how many observations there are of each kind, and messages.
type tally struct {
	kinds          map[api.ObsKind]int
	sent, received int
}

func (y *tally) add(l []api.Obs) {
	for _, o := range l {
		y.kinds[o.Kind]++
		if o.Kind == api.ObsCall && o.A == send && o.B == 0 {
			y.sent++
		}
		if o.Kind == api.ObsCall && o.A == receive && o.B <= 256 {
			y.received++
		}
	}
}

// wantEnough asks that there were all kinds, and messages.
func (y *tally) wantEnough(t testing.TB, many int) {
	t.Helper()
	for kind := api.ObsLoad; kind <= api.ObsSay; kind++ {
		if y.kinds[kind] < many {
			t.Errorf("%v of each kind were told: the test asks too little", y.kinds)
		}
	}
	if y.sent < 10*many || y.received < 5*many {
		t.Errorf("%d were sent, %d received: the test asks too little", y.sent, y.received)
	}
}

// TestTheAuditorIsRight: T9. What machines tell is accepted, whatever they run,
// up to whatever tick; and no tick ahead of the last one will do.
func TestTheAuditorIsRight(t *testing.T) {
	random := rand.New(rand.NewSource(2604))
	all := &tally{kinds: map[api.ObsKind]int{}}
	for i := range 600 {
		g := anyConfig(t, random)
		m := made(t, g, anyLoads(t, random, g)...)
		to := g.Major + uint64(random.Int63n(int64(8*g.Major)))
		interrupt(t, random, m, to)
		l := run(t, m, to)
		all.add(l)
		wantCheck(t, g, to, api.OK, 0, l...)
		wantCheck(t, g, ever, api.OK, 0, l...)
		if n := len(l); n > 0 {
			wantCheck(t, g, l[n-1].Tick+1, api.OK, 0, l...)
			wantCheck(t, g, l[n-1].Tick, api.ErrAuditWindow, n-1, l...)
			wantCheck(t, g, 0, api.ErrAuditWindow, 0, l...)
			n = random.Intn(n)
			wantCheck(t, g, to, api.OK, 0, l[:n]...)
			wantCheck(t, g, l[n].Tick, api.ErrAuditWindow, n, l...)
		}
		wantCounted(t, g, l)
		if t.Failed() {
			t.Fatalf("machine %d: %+v", i, g)
		}
	}
	all.wantEnough(t, 60)
}

// TestPieceByPiece: a machine that is run to several ticks, saved and gone on
// from on the way.
func TestPieceByPiece(t *testing.T) {
	random := rand.New(rand.NewSource(2605))
	all := &tally{kinds: map[api.ObsKind]int{}}
	for i := range 100 {
		g := anyConfig(t, random)
		m := made(t, g, anyLoads(t, random, g)...)
		var l []api.Obs
		for range 20 {
			to := m.Now() + uint64(random.Int63n(int64(g.Major)))
			interrupt(t, random, m, g.Major)
			l = append(l, run(t, m, to)...)
			wantCheck(t, g, to, api.OK, 0, l...)
			again, e := monitor.Resume(m.State())
			if e != api.OK {
				t.Fatalf("Resume = %d", e)
			}
			m = again
		}
		all.add(l)
		wantCounted(t, g, l)
		if t.Failed() {
			t.Fatalf("machine %d: %+v", i, g)
		}
	}
	all.wantEnough(t, 10)
}

// TestLateMachines: machines that begin late, up to the end of time.
func TestLateMachines(t *testing.T) {
	random := rand.New(rand.NewSource(2606))
	told, ended := 0, 0
	for i := range 200 {
		g := anyConfig(t, random)
		s := made(t, g, anyLoads(t, random, g)...).State()
		frame := pick[uint64](random, maxTick/g.Major-1, maxTick/g.Major-1, maxTick/g.Major-2, maxTick/g.Major/2, 1<<32/g.Major, 1<<33/g.Major)
		w := g.Windows[random.Intn(len(g.Windows))]
		s.Tick = frame*g.Major + w.Start + w.Length
		m, e := monitor.Resume(s)
		if e != api.OK {
			t.Fatalf("Resume at the end of a window = %d", e)
		}
		interrupt(t, random, m, 2*g.Major)
		to := min(s.Tick+4*g.Major, maxTick)
		l := run(t, m, to)
		wantCheck(t, g, to, api.OK, 0, l...)
		wantCounted(t, g, l)
		told += len(l)
		if to == maxTick && len(l) > 0 && l[len(l)-1].Tick > maxTick-g.Major {
			ended++
		}
		if t.Failed() {
			t.Fatalf("machine %d: %+v", i, g)
		}
	}
	if told < 5000 || ended < 30 {
		t.Errorf("%d were told, %d up to the end of time: the test asks too little", told, ended)
	}
}

// floods: a cell sends as much as it can, and receives as much as it can.
func floods(g api.Config, cell int) string {
	s := fmt.Sprintf(".org %d\nli r10, %d\nloop: nop\n", entry, data)
	for _, m := range messages(g, cell) {
		if m.call == send || m.call == receive {
			s += fmt.Sprintf("addi r1, r0, %d\naddi r2, r10, 0\naddi r3, r0, 4\nhcall %d\n", m.port, m.call)
		}
	}
	return s + "j loop"
}

// TestFloods: each message that can be received, is.
func TestFloods(t *testing.T) {
	random := rand.New(rand.NewSource(2607))
	none, refused := 0, 0
	for range 60 {
		g := anyConfig(t, random)
		var loads []api.Load
		for i := range g.Cells {
			loads = append(loads, codeOf(t, i+1, floods(g, i+1)))
		}
		to := 12 * g.Major
		l := run(t, made(t, g, loads...), to)
		wantCheck(t, g, to, api.OK, 0, l...)
		first := slices.IndexFunc(l, func(o api.Obs) bool { return o.Kind == api.ObsCall && o.A == receive && o.B <= 256 })
		if first < 0 {
			none++
			continue
		}
		// Without all that was sent ahead of it, the first one came from nowhere.
		less := slices.DeleteFunc(slices.Clone(l[:first]), func(o api.Obs) bool { return o.A == send && o.B == 0 })
		if e, place := audit.Check(g, to, append(less, l[first:]...)...); e == api.ErrAuditPort && place == len(less) {
			refused++
		}
	}
	if none+refused != 60 || refused < 20 {
		t.Errorf("%d refused, %d without a message, of 60", refused, none)
	}
}

// changed is a trace with something about it changed.
func changed(random *rand.Rand, l []api.Obs) []api.Obs {
	l = slices.Clone(l)
	i, j := random.Intn(len(l)), random.Intn(len(l))
	o := &l[i]
	switch random.Intn(9) {
	case 0:
		o.Tick = pick(random, o.Tick-1, o.Tick+1, l[j].Tick, anyTick(random))
	case 1:
		o.Cell = pick(random, o.Cell-1, o.Cell+1, l[j].Cell)
	case 2:
		o.Kind = pick(random, l[j].Kind, api.ObsHalt, 0, 8)
	case 3:
		o.A = pick(random, l[j].A, send, receive, halt, anyNumber(random))
	case 4:
		o.B = pick(random, l[j].B, 0, anyNumber(random))
	case 5:
		l[i], l[j] = l[j], l[i]
	case 6:
		l = slices.Insert(l, i, l[j])
	case 7:
		l = slices.Delete(l, i, i+1)
	case 8:
		cell := o.Cell // its past is forgotten
		l = append(slices.DeleteFunc(l[:i:i], func(x api.Obs) bool { return x.Cell == cell }), slices.Clone(l[i:])...)
	}
	return l
}

// TestChangedTraces: what a machine tells, with something changed, is held
// against the model.
func TestChangedTraces(t *testing.T) {
	random := rand.New(rand.NewSource(2608))
	errors := map[api.Errno]int{}
	for i := range 150 {
		g := anyConfig(t, random)
		m := made(t, g, anyLoads(t, random, g)...)
		to := 3 * g.Major
		interrupt(t, random, m, to)
		l := run(t, m, to)
		if len(l) == 0 {
			continue
		}
		l = l[:min(len(l), 120)]
		for range 30 {
			e, _ := wantModel(t, g, to, changed(random, l))
			errors[e]++
		}
		if t.Failed() {
			t.Fatalf("machine %d: %+v", i, g)
		}
	}
	for _, e := range []api.Errno{api.OK, api.ErrAuditOrder, api.ErrAuditCell, api.ErrAuditWindow, api.ErrAuditLine, api.ErrAuditPort} {
		if errors[e] < 10 {
			t.Errorf("%v of each error: the test asks too little", errors)
		}
	}
}
