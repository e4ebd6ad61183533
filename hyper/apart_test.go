package hyper_test

import (
	"sync"
	"testing"

	"cloister/api"
	"cloister/boot"
	"cloister/config"
	"cloister/hyper"
)

// use makes calls of all kinds, some of which are refused; it tells all that is
// answered.
func use(m *boot.Machine) []hyper.Answer {
	var l []hyper.Answer
	for tick := range uint64(40) {
		for cell := 1; cell <= 3; cell++ {
			for n := range uint32(13) {
				r := regs(uint32(tick)%4, 0x8000+252*uint32(tick), 4*uint32(tick%3))
				l = append(l, hyper.Call(m, cell, 777*tick, n, &r))
			}
			turn(m, cell)
			m.Gic.Raise(int(tick))
		}
	}
	return l
}

func wantUse(t testing.TB, m *boot.Machine, want []hyper.Answer) {
	t.Helper()
	for i, a := range use(m) {
		if a != want[i] {
			t.Fatalf("answer %d is %+v, want %+v", i, a, want[i])
		}
	}
}

// TestConfigurationStays: calls change nothing of what was sealed.
func TestConfigurationStays(t *testing.T) {
	m := booted(t, three())
	use(m)
	if !config.Equal(m.Config, three()) {
		t.Errorf("the configuration is now %+v", m.Config)
	}
	own := booted(t, three()).Memory
	for at := uint32(0); at < 32*page; at += 4 {
		v, _ := m.Memory.Load(at, 4)
		if w, _ := own.Load(at, 4); v != w {
			t.Fatalf("the monitor's word at %#x is %#x, and was %#x", at, v, w)
		}
	}
	s, before := m.Gic.State(), booted(t, three()).Gic.State()
	if s.Route != before.Route {
		t.Errorf("the routes are now %v", s.Route)
	}
}

// TestMachinesAreApart: of the same bytes, or others.
func TestMachinesAreApart(t *testing.T) {
	m, other := booted(t, three()), booted(t, three())
	before := stateOf(other)
	want := use(m)
	wantState(t, other, before)
	use(fed(t))
	wantUse(t, other, want)
	wantState(t, other, stateOf(m))
}

// TestRegistersAreApart: nothing is kept of those that are handed in, nor of
// which cell asked ahead.
func TestRegistersAreApart(t *testing.T) {
	m := booted(t, three())
	a, b := regs(0, 0x8000, 8), regs(0, 0x8000, 8)
	hyper.Call(m, 1, 5, send, &a)
	hyper.Call(m, 2, 5, whoAmI, &b)
	was := a
	turn(m, 1)
	hyper.Call(m, 2, 6, receive, &b)
	if a != was || b.R[1] != nothing { // of the queue 2: R1 was the cell's number
		t.Errorf("%+v, %+v", a, b)
	}
}

// TestManyAtOnce: calls on unlike machines know nothing of one another (the
// race detector would tell).
func TestManyAtOnce(t *testing.T) {
	want := use(booted(t, three()))
	var all sync.WaitGroup
	for range 8 {
		all.Go(func() {
			for range 5 {
				wantUse(t, booted(t, three()), want)
			}
		})
	}
	all.Wait()
}

// TestMachinesThatWereNotBooted: whoever makes one by hand, and leaves parts
// out, gets an answer all the same, and no panic.
func TestMachinesThatWereNotBooted(t *testing.T) {
	for n := range uint32(13) {
		wantCall(t, &boot.Machine{}, 1, 200, n, regs(0, 0x8000, 4), hyper.Answer{}) // it has no cell
	}
	bare := &boot.Machine{Config: three()}
	for n := uint32(write); n <= receive; n++ {
		wantValue(t, bare, 1, 200, n, regs(0, 0x8000, 4), who)
	}
	for _, n := range []uint32{mask, waiting, left} {
		wantCall(t, bare, 1, 200, n, regs(0, 0x8000, 4), hyper.Answer{})
	}
	wantValue(t, bare, 3, 200, whoAmI, regs(), 3)
	wantValue(t, bare, 3, 200, 12, regs(), number)

	m := booted(t, three())
	m.MMU = nil
	wantValue(t, m, 1, 200, send, regs(0, 0x8000, 0), 0) // nothing is to be copied
	wantCall(t, m, 1, 200, send, regs(0, 0x8000, 4), hyper.Answer{})
	m.Samples[0], m.Queues, m.Config.Queues = nil, append(m.Queues, m.Queues[0]), append(m.Config.Queues, api.Queue{}, api.Queue{})
	wantValue(t, m, 1, 200, write, regs(0, 0x8000, 0), who)
	wantValue(t, m, 2, 200, read, regs(0, 0x8000, 0), who)
	m.Config.Samples = m.Config.Samples[:1] // fewer than there are ports
	wantValue(t, m, 3, 200, write, regs(1, 0x8000, 0), who)
	for i := uint32(3); i < 6; i++ {
		wantValue(t, m, 1, 200, send, regs(i, 0x8000, 0), who)
		wantValue(t, m, 2, 200, receive, regs(i, 0x8000, 0), who)
	}
}
