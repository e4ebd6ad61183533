package snapshot_test

import (
	"bytes"
	"math/rand"
	"slices"
	"testing"

	"cloister/api"
	"cloister/config"
	"cloister/monitor"
	"cloister/snapshot"
)

// tally counts what was there when machines were saved.
type tally map[string]int

func (n tally) see(s api.State) {
	add := func(what string, there bool) {
		if there {
			n[what]++
		}
	}
	add("waits", s.Waits)
	add("lines", len(s.Lines) > 0)
	add("dirty lines", slices.ContainsFunc(s.Lines, func(l api.Line) bool { return l.Dirty }))
	add("slots", len(s.Slots) > 0)
	add("arrivals", len(s.Arrivals) > 0)
	add("pending", s.Gic.Pending != 0)
	add("masked", s.Gic.Masked != 0)
	for _, c := range s.Cells {
		add("halted", c.Halted)
		add("on", c.Regs.On)
		add("handling", c.Regs.Handling)
	}
	for _, p := range s.Samples {
		add("sample seen", p.There)
		add("sample waits", p.Waits)
	}
	for _, q := range s.Queues {
		add("queued", len(q.Queued) > 0)
		add("staged", len(q.Staged) > 0)
		add("lost", q.Stat.Lost > 0)
	}
}

// TestGoingOn: T7. A machine that is run to a tick, saved, loaded and run on
// tells and has what one has that was run in one go; and so does the one that
// was saved.
func TestGoingOn(t *testing.T) {
	t.Parallel()
	random := rand.New(rand.NewSource(2308))
	n := tally{}
	for i := range 120 {
		p := anyPlan(t, random)
		first := p.begun(t)
		all := run(t, first, p.to)
		last := saved(t, first)

		m := p.begun(t)
		var told []api.Obs
		for m.Now() < p.to {
			b := saved(t, m)
			n.see(m.State())
			if want, _ := written(m.State()); !bytes.Equal(b, want) {
				t.Fatalf("machine %d at %d: Save is not Encode of its State", i, m.Now())
			}
			other := loaded(t, b)
			if !bytes.Equal(saved(t, other), b) {
				t.Fatalf("machine %d at %d: what was loaded is saved otherwise", i, m.Now())
			}
			if random.Intn(2) == 0 {
				m, other = other, m
			}
			if rest := run(t, other, p.to); !slices.Equal(rest, all[len(told):]) || !bytes.Equal(saved(t, other), last) {
				t.Fatalf("machine %d at %d: another end", i, m.Now())
			}
			if !bytes.Equal(saved(t, m), b) {
				t.Fatalf("machine %d at %d: one has changed as the other one ran", i, m.Now())
			}
			told = append(told, run(t, m, min(p.to, m.Now()+1+uint64(random.Int63n(int64(p.to/5)))))...)
		}
		if !slices.Equal(told, all) || !bytes.Equal(saved(t, m), last) {
			t.Fatalf("machine %d: saved and loaded again and again, it comes to another end", i)
		}
	}
	for _, what := range []string{"waits", "lines", "dirty lines", "slots", "arrivals", "pending", "masked", "halted", "on", "handling", "sample seen", "sample waits", "queued", "staged", "lost"} {
		if n[what] < 10 {
			t.Errorf("%q was there %d times: the test asks too little (%v)", what, n[what], n)
		}
	}
}

// TestEachStep: one machine, saved and loaded at each thing that happens.
func TestEachStep(t *testing.T) {
	random := rand.New(rand.NewSource(2309))
	p := anyPlan(t, random)
	first := p.begun(t)
	all := run(t, first, p.to)
	m := p.begun(t)
	var told []api.Obs
	things := 0
	for m.Now() < p.to {
		m = loaded(t, saved(t, m))
		told = append(told, run(t, m, m.Now()+1)...)
		things++
	}
	if !slices.Equal(told, all) || !bytes.Equal(saved(t, m), saved(t, first)) {
		t.Error("it comes to another end")
	}
	if things < 100 || len(all) < 20 {
		t.Errorf("%d things, %d observations: the test asks too little", things, len(all))
	}
}

// TestSaveChangesNothing: a machine that is saved after each piece of its run,
// and one that never is.
func TestSaveChangesNothing(t *testing.T) {
	random := rand.New(rand.NewSource(2310))
	for i := range 40 {
		p := anyPlan(t, random)
		one, two := p.begun(t), p.begun(t)
		for one.Now() < p.to {
			to := one.Now() + 1 + uint64(random.Int63n(int64(p.to/3)))
			if !slices.Equal(run(t, one, to), run(t, two, to)) {
				t.Fatalf("machine %d: other observations up to %d", i, to)
			}
			if !bytes.Equal(saved(t, one), saved(t, one)) {
				t.Fatalf("machine %d at %d: saved twice, and otherwise", i, one.Now())
			}
		}
		if !same(one.State(), two.State()) {
			t.Fatalf("machine %d: another state", i)
		}
	}
}

// TestScriptGoesOn: what comes later comes to the loaded machine, too.
func TestScriptGoesOn(t *testing.T) {
	random := rand.New(rand.NewSource(2311))
	for i := range 40 {
		p := anyPlan(t, random)
		m := p.begun(t)
		run(t, m, p.to)
		n := loaded(t, saved(t, m))
		for range 20 {
			a := api.Arrival{Tick: m.Now() + uint64(random.Intn(3000)), Line: random.Intn(api.Lines)}
			if e, f := m.Script(a), n.Script(a); e != api.OK || f != api.OK {
				t.Fatalf("Script = %d, %d", e, f)
			}
		}
		to := m.Now() + 20000
		if !slices.Equal(run(t, m, to), run(t, n, to)) || !bytes.Equal(saved(t, m), saved(t, n)) {
			t.Fatalf("machine %d: another end", i)
		}
	}
}

// TestMachinesApart: those that were loaded of one list of bytes know nothing of
// one another, nor of the bytes.
func TestMachinesApart(t *testing.T) {
	random := rand.New(rand.NewSource(2312))
	for i := range 40 {
		p := anyPlan(t, random)
		m := p.begun(t)
		run(t, m, p.to/2)
		b := saved(t, m)
		want := bytes.Clone(b)
		one, two := loaded(t, b), loaded(t, b)
		random.Read(full(b))
		told := run(t, one, p.to)
		if !bytes.Equal(saved(t, two), want) || !bytes.Equal(saved(t, m), want) {
			t.Fatalf("machine %d: one has changed as another one ran", i)
		}
		c := saved(t, two)
		random.Read(full(c))
		if !slices.Equal(run(t, two, p.to), told) || !bytes.Equal(saved(t, one), saved(t, two)) {
			t.Fatalf("machine %d: another end", i)
		}
	}
}

// busy is a machine of two cells, in the midst of a window of the first.
func busy(t *testing.T) *monitor.Monitor {
	t.Helper()
	g := api.Config{
		Pages: 40, OwnPages: 16, Shape: api.Shape{Sets: 4, Ways: 2, Line: 32}, Slots: 4, Major: 12000,
		Samples: []api.Sample{{Writer: 1, Size: 8, Readers: []int{2}}},
		Queues:  []api.Queue{{Writer: 1, Reader: 2, Size: 8, Depth: 4, Quota: 2}},
	}
	for i := range 2 {
		at := uint32(20+4*i) * page
		g.Cells = append(g.Cells, api.Cell{Name: string(rune('a' + i)), Entry: entry, Lines: []int{3 + i}, Ranges: []api.Range{
			{Virtual: entry, Physical: at, Pages: 1, Perm: api.Read | api.Exec},
			{Virtual: data, Physical: at + page, Pages: 1, Perm: api.Read | api.Write},
		}})
		g.Windows = append(g.Windows, api.Window{Cell: i + 1, Start: uint64(6000 * i), Length: 5000})
	}
	p := plan{blob: blobOf(t, g), comes: []api.Arrival{{Tick: 7000, Line: 9}}}
	for i := range g.Cells {
		p.loads = append(p.loads, coded(t, i+1, ".org 0x1000\nli r10, 0x8000\nloop: addi r4, r4, 1\nsw r4, 0(r10)\nli r1, 0\nmv r2, r10\nli r3, 8\nhcall 3\nli r1, 0\nhcall 1\nj loop"))
	}
	m := p.begun(t)
	run(t, m, 700)
	return m
}

// TestLoadAsResume: of states that no machine has, Load tells what Resume tells.
func TestLoadAsResume(t *testing.T) {
	for what, wrong := range map[string]func(s *api.State){
		"nothing":               func(s *api.State) { *s = api.State{} },
		"no blob":               func(s *api.State) { s.Blob = nil },
		"another beginning":     func(s *api.State) { s.Blob[0]++ },
		"a blob with more":      func(s *api.State) { s.Blob = append(s.Blob, 0) },
		"a blob's wrong sum":    func(s *api.State) { s.Blob[len(s.Blob)-1]++ },
		"a blob that ends":      func(s *api.State) { s.Blob = s.Blob[:len(s.Blob)-1] },
		"no cells":              func(s *api.State) { s.Blob, _ = config.Encode(api.Config{Pages: 8}) },
		"a cell too many":       func(s *api.State) { s.Cells = append(s.Cells, api.CellState{}) },
		"a cell too few":        func(s *api.State) { s.Cells = s.Cells[1:] },
		"R[0]":                  func(s *api.State) { s.Cells[1].Regs.R[0] = 1 },
		"no samples":            func(s *api.State) { s.Samples = nil },
		"no queues":             func(s *api.State) { s.Queues = nil },
		"a queue's count":       func(s *api.State) { s.Queues[0].Stat.Lost++ },
		"pages":                 func(s *api.State) { s.Pages = s.Pages[1:] },
		"a page of noughts":     func(s *api.State) { clear(s.Pages[len(s.Pages)-1].Bytes) },
		"a short page":          func(s *api.State) { p := &s.Pages[len(s.Pages)-1]; p.Bytes = p.Bytes[1:] },
		"pages that do not fit": func(s *api.State) { s.Pages[len(s.Pages)-1].Number = 40 },
		"another route":         func(s *api.State) { s.Gic.Route[3] = 2 },
		"no such cell's route":  func(s *api.State) { s.Gic.Route[3] = 255 },
		"another cell's slot":   func(s *api.State) { s.Slots[0].Tag.Cell = 2 },
		"another mapping":       func(s *api.State) { s.Slots[0].Mapping.Perm = 7 },
		"lines":                 func(s *api.State) { s.Lines[0].Set = 4 },
		"waits in a window":     func(s *api.State) { s.Waits = true },
		"a tick too late":       func(s *api.State) { s.Tick = 1 << 63 },
		"a tick in no window":   func(s *api.State) { s.Tick = 5500 },
		"an arrival's line":     func(s *api.State) { s.Arrivals[0].Line = 32 },
		"an arrival's tick":     func(s *api.State) { s.Arrivals[0].Tick = 1 << 63 },
		"halted in a window":    func(s *api.State) { s.Cells[0].Halted = true },
	} {
		s := busy(t).State()
		wrong(&s)
		_, want := monitor.Resume(s)
		if want == api.OK || want == api.ErrSnapshotForm || want == api.ErrSnapshotSum {
			t.Fatalf("%s: Resume = %d", what, want)
		}
		b, e := snapshot.Encode(s)
		if e != api.OK {
			t.Fatalf("%s: Encode = %d", what, e)
		}
		if m, e := snapshot.Load(b); m != nil || e != want {
			t.Errorf("%s: Load = %t, %d, want %d", what, m != nil, e, want)
		}
		wantDecode(t, what, b, s)
		b[len(b)-1]++
		wantRefused(t, what+", with a wrong sum", b, api.ErrSnapshotSum)
	}
}

// TestLoadsErrors: by their numbers.
func TestLoadsErrors(t *testing.T) {
	s := busy(t).State()
	for want, turn := range map[api.Errno]func(s *api.State){
		api.ErrMonitorForm:  func(s *api.State) { s.Cells = nil },
		api.ErrConfigMagic:  func(s *api.State) { s.Blob = nil },
		api.ErrConfigBehind: func(s *api.State) { s.Blob = append(bytes.Clone(s.Blob), 1) },
	} {
		other := s
		turn(&other)
		b, e := snapshot.Encode(other)
		if e != api.OK {
			t.Fatalf("Encode = %d", e)
		}
		if m, e := snapshot.Load(b); m != nil || e != want {
			t.Errorf("Load = %t, %d, want %d", m != nil, e, want)
		}
	}
}

// TestStatesOfAMachine: at the start, at a window's end, where a cell waits, and
// at the end of time.
func TestStatesOfAMachine(t *testing.T) {
	g := api.Config{
		Pages: 8, OwnPages: 3, Shape: api.Shape{Sets: 4, Ways: 2, Line: 32}, Slots: 8, Major: 10000,
		Cells: []api.Cell{{Name: "a", Entry: entry, Ranges: []api.Range{
			{Virtual: entry, Physical: 4 * page, Pages: 1, Perm: api.Read | api.Exec},
		}}},
		Windows: []api.Window{{Cell: 1, Start: 100, Length: 5000}},
	}
	for _, source := range []string{"wait\nhcall 7\nj 0x1000", "halt", "hcall 10\nhcall 9\nwait"} {
		p := plan{blob: blobOf(t, g), loads: []api.Load{coded(t, 1, ".org 0x1000\n"+source)}}
		for _, to := range []uint64{0, 1, 100, 101, 5099, 5100, 5101, 10100, 10101} {
			m := p.begun(t)
			run(t, m, to)
			n := loaded(t, saved(t, m))
			if n.Now() != m.Now() || !same(n.State(), m.State()) {
				t.Fatalf("%q, run to %d: Load at %d, want %d, or another state", source, to, n.Now(), m.Now())
			}
			if !slices.Equal(run(t, n, 40000), run(t, m, 40000)) || !same(n.State(), m.State()) {
				t.Fatalf("%q, run to %d: another end", source, to)
			}
		}
		m := p.begun(t)
		s := m.State()
		s.Tick = api.MaxTick
		b, e := snapshot.Encode(s)
		if e != api.OK {
			t.Fatalf("Encode = %d", e)
		}
		n := loaded(t, b)
		if l, e := n.Run(api.MaxTick); len(l) != 0 || e != api.OK || n.Now() != api.MaxTick {
			t.Errorf("at the end of time: Run = %d observations, %d", len(l), e)
		}
	}
}

// TestGreatMachine: as much memory as there may be, and something in each page
// that is not the monitor's.
func TestGreatMachine(t *testing.T) {
	t.Parallel()
	random := rand.New(rand.NewSource(2313))
	g := api.Config{
		Pages: api.MaxPages, OwnPages: 3, Shape: api.Shape{Sets: api.MaxSets, Ways: api.MaxWays, Line: api.MaxLine}, Slots: api.MaxSlots, Major: 100000,
		Cells: []api.Cell{{Name: "a", Entry: entry, Ranges: []api.Range{
			{Virtual: entry, Physical: 4 * page, Pages: 1, Perm: api.Read | api.Exec},
			{Virtual: data, Physical: 8 * page, Pages: 500, Perm: api.Read | api.Write},
		}}},
		Windows: []api.Window{{Cell: 1, Length: 100000}},
	}
	p := plan{blob: blobOf(t, g), loads: []api.Load{coded(t, 1, ".org 0x1000\nli r10, 0x8000\nloop: lw r4, 0(r10)\naddi r4, r4, 1\nsw r4, 0(r10)\naddi r10, r10, 2048\naddi r10, r10, 2052\nj loop")}}
	s := p.begun(t).State()
	for i := range uint32(api.MaxPages - 5) {
		b := make([]byte, page)
		random.Read(b)
		s.Pages = append(s.Pages, api.Page{Number: 5 + i, Bytes: b})
	}
	b, e := snapshot.Encode(s)
	if e != api.OK || len(b) < api.MaxPages*page-8*page {
		t.Fatalf("Encode = %d bytes, %d", len(b), e)
	}
	m := loaded(t, b)
	told := run(t, m, 50000)
	n := loaded(t, saved(t, m))
	if !slices.Equal(run(t, n, 100000), run(t, m, 100000)) || !same(n.State(), m.State()) || len(told) < 200 {
		t.Errorf("%d observations, or another end", len(told))
	}
}

// TestTooManyArrivals: a machine that cannot be written stays as it is.
func TestTooManyArrivals(t *testing.T) {
	t.Parallel()
	m := busy(t)
	l := make([]api.Arrival, limit/12)
	for i := range l {
		l[i] = api.Arrival{Tick: 1<<40 + uint64(i)}
	}
	if e := m.Script(l...); e != api.OK {
		t.Fatalf("Script = %d", e)
	}
	if b, e := snapshot.Save(m); len(b) != 0 || e != api.ErrSnapshotForm {
		t.Errorf("Save = %d bytes, %d", len(b), e)
	}
	n := busy(t)
	if !slices.Equal(run(t, m, 30000), run(t, n, 30000)) {
		t.Error("other observations")
	}
}
