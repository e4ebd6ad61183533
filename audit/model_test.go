package audit_test

import (
	"math/rand"
	"slices"
	"testing"

	"cloister/api"
	"cloister/valid"
)

// model is Check by the chapter's words, each of them asked of the whole list
// anew.
func model(g api.Config, to uint64, l []api.Obs) (api.Errno, int) {
	if e, _ := valid.Check(g); e != api.OK {
		return api.ErrAuditConfig, 0
	}
	for i := range l {
		for _, rule := range []struct {
			e  api.Errno
			so func(g api.Config, to uint64, l []api.Obs) bool
		}{{api.ErrAuditOrder, falls}, {api.ErrAuditCell, noCells}, {api.ErrAuditWindow, outside}, {api.ErrAuditLine, noLine}, {api.ErrAuditPort, noMessage}} {
			if rule.so(g, to, l[:i+1]) {
				return rule.e, i
			}
		}
	}
	return api.OK, 0
}

// last parts the last observation from those ahead.
func last(l []api.Obs) (api.Obs, []api.Obs) { return l[len(l)-1], l[:len(l)-1] }

func falls(_ api.Config, _ uint64, l []api.Obs) bool {
	o, ahead := last(l)
	return len(ahead) > 0 && o.Tick <= ahead[len(ahead)-1].Tick
}

func noCells(g api.Config, _ uint64, l []api.Obs) bool {
	o, ahead := last(l)
	for _, x := range ahead {
		if x.Cell == o.Cell && (x.Kind == api.ObsHalt || x.Kind == api.ObsFault || x.Kind == api.ObsCall && x.A == halt) {
			return true
		}
	}
	if o.Cell < 1 || o.Cell > len(g.Cells) || o.Kind < 1 || o.Kind > 7 {
		return true
	}
	switch o.Kind {
	case api.ObsIrq, api.ObsSay:
		return o.B != 0
	case api.ObsHalt:
		return o.A != 0 || o.B != 0
	case api.ObsFault:
		return o.A < 1 || o.A > 6
	case api.ObsClock:
		return o.A != uint32(o.Tick) || o.B != uint32(o.Tick>>32)
	}
	return false
}

// windowAt is the start of the cell's window in which the tick is, and its length.
func windowAt(g api.Config, cell int, tick uint64) (start, length uint64, in bool) {
	for _, w := range g.Windows {
		start := tick/g.Major*g.Major + w.Start
		if w.Cell == cell && start <= tick && tick < start+w.Length {
			return start, w.Length, true
		}
	}
	return 0, 0, false
}

func outside(g api.Config, to uint64, l []api.Obs) bool {
	o, _ := last(l)
	if o.Tick >= to || o.Tick > 9223372036854775807 {
		return true
	}
	start, length, in := windowAt(g, o.Cell, o.Tick)
	return !in || o.Tick+valid.MaxStep(g, o.Cell) > start+length-valid.Switch(g, o.Cell)
}

func noLine(g api.Config, _ uint64, l []api.Obs) bool {
	o, _ := last(l)
	return o.Kind == api.ObsIrq && (o.A > 31 || !slices.Contains(g.Cells[o.Cell-1].Lines, int(o.A)))
}

func noMessage(g api.Config, _ uint64, l []api.Obs) bool {
	o, _ := last(l)
	if o.Kind != api.ObsCall || o.A != receive || o.B > 256 {
		return false
	}
	room := false
	for _, q := range g.Queues {
		room = room || q.Reader == o.Cell && q.Size >= int(o.B)
	}
	writes := func(cell int) bool {
		return slices.ContainsFunc(g.Queues, func(q api.Queue) bool { return q.Writer == cell && q.Reader == o.Cell })
	}
	start, _, _ := windowAt(g, o.Cell, o.Tick)
	got, were := 0, 0
	for _, x := range l {
		if x.Kind != api.ObsCall {
			continue
		}
		if x.Cell == o.Cell && x.A == receive && x.B <= 256 {
			got++
		}
		if x.A == send && x.B == 0 && x.Tick < start && writes(x.Cell) {
			were++
		}
	}
	return !room || got > were
}

// wantModel asks that Check comes to what the model makes of it.
func wantModel(t testing.TB, g api.Config, to uint64, l []api.Obs) (api.Errno, int) {
	t.Helper()
	e, place := model(g, to, l)
	wantCheck(t, g, to, e, place, l...)
	return e, place
}

// TestAsTheModel: lists of which most could be a machine's for a while.
func TestAsTheModel(t *testing.T) {
	random := rand.New(rand.NewSource(2601))
	errors, places := map[api.Errno]int{}, 0
	for i := range 400 {
		g := anyConfig(t, random)
		for range 30 {
			l := anyTrace(random, g, random.Intn(80))
			e, place := wantModel(t, g, anyTo(random, l), l)
			errors[e]++
			places += place
		}
		if t.Failed() {
			t.Fatalf("configuration %d: %+v", i, g)
		}
	}
	for _, e := range []api.Errno{api.OK, api.ErrAuditOrder, api.ErrAuditCell, api.ErrAuditWindow, api.ErrAuditLine, api.ErrAuditPort} {
		if errors[e] < 200 {
			t.Errorf("%v of each error: the test asks too little", errors)
		}
	}
	if places < 50000 {
		t.Errorf("places come to %d: the test asks too little", places)
	}
}

// TestOfAnything: any numbers, also of configurations that may not be.
func TestOfAnything(t *testing.T) {
	random := rand.New(rand.NewSource(2602))
	errors := map[api.Errno]int{}
	for range 20000 {
		g := pair()
		switch random.Intn(4) {
		case 0:
			g = four()
		case 1:
			g = broken()[random.Intn(len(broken()))]
		}
		var l []api.Obs
		for range random.Intn(6) {
			l = append(l, anything(random))
		}
		if random.Intn(2) == 0 {
			slices.SortFunc(l, func(a, b api.Obs) int { return int(a.Tick>>2) - int(b.Tick>>2) })
		}
		e, _ := wantModel(t, g, anyTick(random), l)
		errors[e]++
		if t.Failed() {
			t.FailNow()
		}
	}
	for e := api.ErrAuditConfig; e <= api.ErrAuditLine; e++ {
		if errors[e] < 20 {
			t.Errorf("%v of each error: the test asks too little", errors)
		}
	}
}

// TestWhatIsRefusedStays: however much more comes behind, the place stays; and
// what stands ahead of it is accepted.
func TestWhatIsRefusedStays(t *testing.T) {
	random := rand.New(rand.NewSource(2603))
	refused := 0
	for range 200 {
		g := anyConfig(t, random)
		for range 20 {
			l := anyTrace(random, g, 60)
			to := anyTo(random, l)
			e, place := wantModel(t, g, to, l)
			if e == api.OK {
				continue
			}
			refused++
			for n := range place + 1 {
				wantCheck(t, g, to, api.OK, 0, l[:n]...)
			}
			l = l[: place+1 : place+1]
			for range random.Intn(30) {
				wantCheck(t, g, to, e, place, l...)
				l = append(l, pick(random, anything(random), next(random, g, l), l[random.Intn(len(l))]))
			}
		}
		if t.Failed() {
			t.FailNow()
		}
	}
	if refused < 2000 {
		t.Errorf("%d were refused: the test asks too little", refused)
	}
}

// TestMany: a long trace, of which the last one alone is wrong.
func TestMany(t *testing.T) {
	g := four()
	const frames = 100
	var l []api.Obs
	for frame := range uint64(frames) {
		for _, h := range hours() {
			for tick := h.first; tick <= min(h.last, h.first+500); tick++ {
				o := seen(frame*60000+tick, h.cell)
				switch tick % 5 {
				case 0:
					o = sent(o.Tick, h.cell)
				case 3:
					o = obs(o.Tick, h.cell, api.ObsClock, uint32(o.Tick), 0)
				}
				l = append(l, o)
			}
		}
	}
	wantCheck(t, g, frames*60000, api.OK, 0, l...)
	wantCheck(t, g, l[len(l)-1].Tick, api.ErrAuditWindow, len(l)-1, l...)
	sends := 0 // to cell 2, by 1 and 3
	for _, o := range l {
		if o.Kind == api.ObsCall && o.Cell%2 == 1 {
			sends++
		}
	}
	for tick := uint64(frames * 60000); sends > 0; tick++ {
		if mayBegin(2, tick) {
			l = append(l, received(tick, 2, 64))
			sends--
		}
	}
	wantCheck(t, g, ever, api.OK, 0, l...)
	wantCheck(t, g, ever, api.ErrAuditPort, len(l), append(l, received(1e9*60000+40000, 2, 0))...)
}
