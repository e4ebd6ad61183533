package monitor_test

import (
	"math"
	"math/rand"
	"slices"
	"testing"

	"cloister/api"
)

// handler takes interrupts all the time: of each it says the line.
const handler = "li r1, 0x1018\nvec r1\nei\nnop\nj 0\nmv r1, r14\nhcall 8\neret"

func TestScriptErrors(t *testing.T) {
	m := programmed(t, three())
	run(t, m, 6100)
	script(t, m, api.Arrival{Tick: 7000, Line: 3})
	before := m.State()
	well := api.Arrival{Tick: 8000, Line: 3}
	for _, c := range []struct {
		l    []api.Arrival
		want api.Errno
	}{
		{[]api.Arrival{{Tick: 8000, Line: -1}}, api.ErrMonitorArg},
		{[]api.Arrival{{Tick: 8000, Line: 32}}, api.ErrMonitorArg},
		{[]api.Arrival{{Tick: 8000, Line: 1<<32 + 3}}, api.ErrMonitorArg},
		{[]api.Arrival{{Tick: 8000, Line: math.MinInt}}, api.ErrMonitorArg},
		{[]api.Arrival{{Tick: api.MaxTick + 1, Line: 3}}, api.ErrMonitorArg},
		{[]api.Arrival{{Tick: math.MaxUint64, Line: 3}}, api.ErrMonitorArg},
		{[]api.Arrival{well, well, {Tick: 8000, Line: 32}}, api.ErrMonitorArg},
		{[]api.Arrival{{Tick: 0}, {Tick: 8000, Line: 32}, well}, api.ErrMonitorArg},
		{[]api.Arrival{{Tick: 0, Line: 32}}, api.ErrMonitorArg},
		{[]api.Arrival{{Tick: 6099, Line: 3}}, api.ErrMonitorPast},
		{[]api.Arrival{{Tick: 0, Line: 3}}, api.ErrMonitorPast},
		{[]api.Arrival{well, {Tick: 6099, Line: 3}}, api.ErrMonitorPast},
	} {
		if e := m.Script(c.l...); e != c.want {
			t.Errorf("Script(%v) = %d, want %d", c.l, e, c.want)
		}
		wantState(t, m, before)
	}
	script(t, m)
	wantState(t, m, before)
	script(t, m, api.Arrival{Tick: 6100, Line: 0}, api.Arrival{Tick: api.MaxTick, Line: 31}, api.Arrival{Tick: 6100, Line: 31})
	want := []api.Arrival{{Tick: 6100, Line: 0}, {Tick: 6100, Line: 31}, {Tick: 7000, Line: 3}, {Tick: api.MaxTick, Line: 31}}
	if got := m.State().Arrivals; !slices.Equal(got, want) {
		t.Errorf("Arrivals = %v, want %v", got, want)
	}
}

// TestArrivalsAreTold: by Tick, then by Line, in whatever order they came, and
// as often as they came.
func TestArrivalsAreTold(t *testing.T) {
	random := rand.New(rand.NewSource(2101))
	for range 50 {
		m := programmed(t, three(), "halt", "halt", "halt")
		var all []api.Arrival
		for range random.Intn(40) {
			var l []api.Arrival
			for range random.Intn(5) {
				l = append(l, api.Arrival{Tick: 100 + uint64(random.Intn(20000)/1000*1000), Line: random.Intn(4)})
			}
			script(t, m, l...)
			all = append(all, l...)
		}
		slices.SortFunc(all, func(a, b api.Arrival) int { return int(a.Tick)*100 + a.Line - int(b.Tick)*100 - b.Line })
		if got := m.State().Arrivals; !slices.Equal(got, all) {
			t.Fatalf("Arrivals = %v, want %v", got, all)
		}
		to := uint64(random.Intn(30000))
		run(t, m, to) // steps are at 100, 6100 and 21000
		last := uint64(0)
		for _, step := range []uint64{100, 6100, 21000} {
			if step < to {
				last = step
			}
		}
		all = slices.DeleteFunc(all, func(a api.Arrival) bool { return a.Tick <= last })
		if got := m.State().Arrivals; !slices.Equal(got, all) {
			t.Fatalf("behind the step at %d: Arrivals = %v, want %v", last, got, all)
		}
	}
}

// TestArrivalAtAStep: what arrives at the tick at which a step begins is latched
// ahead of it; one tick later, ahead of the next one.
func TestArrivalAtAStep(t *testing.T) {
	for _, c := range []struct{ arrives, taken uint64 }{{100, 141}, {141, 141}, {142, 143}, {143, 143}, {144, 156}, {156, 156}, {157, 158}} {
		m := programmed(t, three(), "lui r1, 1\nvec r1\nei\nnop\nj 0")
		script(t, m, api.Arrival{Tick: c.arrives, Line: 31})
		l := run(t, m, 1000)
		if len(l) == 0 || l[0].Kind != api.ObsIrq || l[0].Tick != c.taken || l[0].A != 31 || l[0].B != 0 {
			t.Errorf("an arrival at %d: %+v", c.arrives, l)
		}
		if x := cellOf(t, m, 1); x.Regs.R[14] != 31 {
			t.Errorf("the cell is %+v", x)
		}
	}
}

// TestTaking: it takes 4 ticks, and is the whole step; PC is told as it was.
func TestTaking(t *testing.T) {
	m := programmed(t, three(), handler)
	script(t, m, api.Arrival{Tick: 200, Line: 4}, api.Arrival{Tick: 200, Line: 3}, api.Arrival{Tick: 200, Line: 3})
	l := run(t, m, 6000)
	if len(l) != 4 || l[0].Tick < 200 || l[0].Tick > 201 {
		t.Fatalf("interrupts: %+v", l)
	}
	at := l[0].Tick
	second := at + 4 + 2 + 12 + 13 // the handler's last instruction stands in another line
	wantTaken := []api.Obs{
		{Tick: at, Cell: 1, Kind: api.ObsIrq, PC: entry + 20, A: 3},
		{Tick: at + 6, Cell: 1, Kind: api.ObsSay, PC: entry + 28, A: 3},
		{Tick: second, Cell: 1, Kind: api.ObsIrq, PC: entry + 20, A: 4},
		{Tick: second + 6, Cell: 1, Kind: api.ObsSay, PC: entry + 28, A: 4},
	}
	if !slices.Equal(l, wantTaken) {
		t.Errorf("interrupts: %+v, want %+v", l, wantTaken)
	}
}

// TestNobodysLines: they are raised to nobody, and are gone.
func TestNobodysLines(t *testing.T) {
	m := programmed(t, three(), handler, handler, handler)
	script(t, m, api.Arrival{Tick: 200, Line: 30}, api.Arrival{Tick: 6200, Line: 1})
	wantRun(t, m, 90000)
	if s := m.State(); len(s.Arrivals) != 0 || s.Gic.Pending != 0 {
		t.Errorf("Arrivals = %v, Pending = %x", s.Arrivals, s.Gic.Pending)
	}
}

// TestOthersLines: they are latched by whoever does a step, and taken by the
// cell to which they go.
func TestOthersLines(t *testing.T) {
	m := programmed(t, three(), handler, handler)
	script(t, m, api.Arrival{Tick: 200, Line: 5}, api.Arrival{Tick: 300, Line: 0}, api.Arrival{Tick: 6000, Line: 31})
	wantRun(t, m, 6000)
	if s := m.State(); s.Gic.Pending != 1<<5|1<<0 || len(s.Arrivals) != 1 {
		t.Errorf("Pending = %x, Arrivals = %v", s.Gic.Pending, s.Arrivals)
	}
	var lines []uint32
	for _, o := range run(t, m, 30000) {
		if o.Kind == api.ObsIrq {
			lines = append(lines, uint32(o.Cell), o.A)
		}
	}
	if !slices.Equal(lines, []uint32{2, 0, 2, 5, 1, 31}) {
		t.Errorf("who took which line: %v", lines)
	}
}

// TestOncePending: what arrives twice ahead of a step is one interrupt; behind
// it is another one.
func TestOncePending(t *testing.T) {
	m := programmed(t, three(), handler)
	script(t, m, api.Arrival{Tick: 1000, Line: 3}, api.Arrival{Tick: 1000, Line: 3}, api.Arrival{Tick: 2000, Line: 3}, api.Arrival{Tick: 7000, Line: 3}, api.Arrival{Tick: 9000, Line: 3})
	var ticks []uint64
	for _, o := range run(t, m, 30000) {
		if o.Kind == api.ObsIrq {
			ticks = append(ticks, o.Tick/10*10)
		}
	}
	if !slices.Equal(ticks, []uint64{1000, 2000, 15000}) {
		t.Errorf("taken at %v", ticks)
	}
}

// TestInterruptsDoNotWakeUp: who waits waits for its next window.
func TestInterruptsDoNotWakeUp(t *testing.T) {
	m := programmed(t, three(), "lui r1, 1\nvec r1\nei\nwait\nj 0", "halt", "halt")
	script(t, m, api.Arrival{Tick: 3000, Line: 3})
	l := run(t, m, 15001)
	if l = slices.DeleteFunc(l, func(o api.Obs) bool { return o.Cell != 1 }); len(l) != 1 || l[0].Tick != 15000 || l[0].Kind != api.ObsIrq {
		t.Errorf("interrupts: %+v", l)
	}
}

// TestManyArrivals: one by one, from the last one on.
func TestManyArrivals(t *testing.T) {
	m := programmed(t, three(), handler, "halt", "halt")
	const n = 200000
	for i := range uint64(n) {
		script(t, m, api.Arrival{Tick: 1000 + n - i, Line: 3})
	}
	run(t, m, 90000)
	s := m.State()
	if len(s.Arrivals) == 0 || !slices.IsSortedFunc(s.Arrivals, func(a, b api.Arrival) int { return int(a.Tick) - int(b.Tick) }) {
		t.Errorf("%d arrivals are left", len(s.Arrivals))
	}
}
