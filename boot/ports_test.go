package boot_test

import (
	"reflect"
	"testing"

	"cloister/api"
	"cloister/queuing"
	"cloister/sampling"
)

func TestNoPorts(t *testing.T) {
	if m := booted(t, crowd(3)); len(m.Samples) != 0 || len(m.Queues) != 0 {
		t.Errorf("%d sampling ports, %d queues", len(m.Samples), len(m.Queues))
	}
}

// wantSample: has a port no message, and is it declared so?
func wantSample(t testing.TB, p *sampling.Port, s api.Sample) {
	t.Helper()
	if x := p.State(); x.There || x.Waits || len(x.Last.Data)+len(x.Next.Data) > 0 || x.Last.Tick+x.Next.Tick > 0 {
		t.Fatalf("it has %+v", x)
	}
	own, e := sampling.New(s)
	if e != api.OK {
		t.Fatalf("sampling.New = %d", e)
	}
	for cell := range api.MaxCells + 2 {
		for _, n := range []int{0, s.Size, s.Size + 4, 3} {
			if got, want := p.Write(cell, 9, make([]byte, n)), own.Write(cell, 9, make([]byte, n)); got != want {
				t.Fatalf("%+v: cell %d writes %d bytes: %d, want %d", s, cell, n, got, want)
			}
		}
	}
	for cell := range api.MaxCells + 2 {
		if got, want := p.Turn(cell), own.Turn(cell); got != want {
			t.Fatalf("%+v: cell %d turns %d bytes, want %d", s, cell, got, want)
		}
	}
	for cell := range api.MaxCells + 2 {
		b, tick, there, e := p.Read(cell)
		c, when, also, want := own.Read(cell)
		if len(b) != len(c) || tick != when || there != also || e != want {
			t.Fatalf("%+v: cell %d reads %d bytes, %d, want %d, %d", s, cell, len(b), e, len(c), want)
		}
	}
}

// wantQueue: likewise.
func wantQueue(t testing.TB, p *queuing.Port, q api.Queue) {
	t.Helper()
	if x := p.State(); x.Stat != (api.QueueStat{}) || len(x.Queued)+len(x.Staged) > 0 {
		t.Fatalf("it has %+v", x)
	}
	own, e := queuing.New(q)
	if e != api.OK {
		t.Fatalf("queuing.New = %d", e)
	}
	for i := range 3 * (api.MaxDepth + api.MaxQuota) {
		for cell := range api.MaxCells + 2 {
			for _, n := range []int{0, q.Size, q.Size + 4, 3} {
				if got, want := p.Send(cell, 9, make([]byte, n)), own.Send(cell, 9, make([]byte, n)); got != want {
					t.Fatalf("%+v: cell %d sends %d bytes: %d, want %d", q, cell, n, got, want)
				}
			}
			if i%5 == 4 && p.Turn(cell) != own.Turn(cell) {
				t.Fatalf("%+v: cell %d turns otherwise", q, cell)
			}
			b, _, there, e := p.Receive(cell)
			if c, _, also, want := own.Receive(cell); len(b) != len(c) || there != also || e != want {
				t.Fatalf("%+v: cell %d receives %d bytes, %d, want %d, %d", q, cell, len(b), e, len(c), want)
			}
		}
	}
	if !reflect.DeepEqual(p.Stat(), own.Stat()) {
		t.Fatalf("%+v: %+v, want %+v", q, p.Stat(), own.Stat())
	}
}

// TestPorts: those of the configuration, in their order, and without messages.
func TestPorts(t *testing.T) {
	g := good()
	m := booted(t, g)
	if len(m.Samples) != 2 || len(m.Queues) != 2 {
		t.Fatalf("%d sampling ports, %d queues", len(m.Samples), len(m.Queues))
	}
	// what the declarations say, by hand
	if e := m.Samples[1].Write(3, 5, make([]byte, 8)); e != api.ErrSamplingLong {
		t.Errorf("8 bytes of 4: %d", e)
	}
	if e := m.Samples[0].Write(3, 5, nil); e != api.ErrSamplingWho {
		t.Errorf("cell 3 writes: %d", e)
	}
	for i := range 5 {
		want := api.OK
		if i >= 3 {
			want = api.ErrQueuingFull
		}
		if e := m.Queues[0].Send(1, 5, nil); e != want { // flow-controlled: by its Depth
			t.Errorf("message %d: %d", i, e)
		}
	}
	for i := range 4 {
		want := api.OK
		if i >= 2 {
			want = api.ErrQueuingFull
		}
		if e := m.Queues[1].Send(2, 5, make([]byte, 256)); e != want { // one-way: by its Quota
			t.Errorf("message %d: %d", i, e)
		}
	}
	m = booted(t, g)
	for i, p := range m.Samples {
		wantSample(t, p, g.Samples[i])
	}
	for i, p := range m.Queues {
		wantQueue(t, p, g.Queues[i])
	}
}

// TestPortsHaveNoBytes: in the memory nothing is seen of messages.
func TestPortsHaveNoBytes(t *testing.T) {
	m := booted(t, good())
	before := m.Memory.Clone()
	full := make([]byte, 256)
	for i := range full {
		full[i] = byte(i + 1)
	}
	for range 2 {
		m.Samples[0].Write(1, 5, full[:64])
		m.Queues[1].Send(2, 5, full)
		m.Samples[0].Turn(1)
		m.Queues[1].Turn(2)
	}
	if !m.Memory.Equal(before) {
		t.Error("messages have changed the memory")
	}
}
