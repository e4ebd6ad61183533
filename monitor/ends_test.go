package monitor_test

import (
	"bytes"
	"testing"

	"cloister/api"
)

// TestNothingIsRemembered: at a window's end TLB and cache are emptied, so each
// window costs what the first one costs, whoever had the one ahead.
func TestNothingIsRemembered(t *testing.T) {
	g := three()
	g.Windows = []api.Window{{Cell: 1, Start: 0, Length: 6000}, {Cell: 1, Start: 6000, Length: 6000}, {Cell: 2, Start: 12000, Length: 6000}}
	g.Major = 18000
	for i := range g.Cells {
		g.Cells[i].Entry = entry + 20 // so that each window begins with the jump
	}
	source := "lui r2, 2\nsw r2, 0(r2)\nclock r1\nlw r3, 0(r2)\nwait\nj -5"
	m := made(t, g, program(t, 1, source), program(t, 2, source))
	for window := range uint64(9) {
		start := window * 6000
		l := run(t, m, start+6000)
		if len(l) != 2 || l[0].Tick != start+37+13+27 || l[1].Tick != start+37+13+27+2 {
			t.Fatalf("window %d: %+v", window, l)
		}
		s := m.State()
		if len(s.Slots) != 2 || len(s.Lines) != 6 {
			t.Errorf("window %d: %d slots, %d lines", window, len(s.Slots), len(s.Lines))
		}
		for _, x := range s.Slots {
			if x.Tag.Cell != g.Windows[window%3].Cell {
				t.Errorf("window %d: a slot of cell %d", window, x.Tag.Cell)
			}
		}
	}
	g.Windows[1] = api.Window{Cell: 1, Start: 6010, Length: 5990} // there is a time behind the end, and ahead of the next start
	m = made(t, g, program(t, 1, source), program(t, 2, source))
	run(t, m, 6001)
	if s := m.State(); s.Tick != 6010 || len(s.Slots) > 0 || len(s.Lines) > 0 {
		t.Errorf("behind the end: %d slots, %d lines, at %d", len(s.Slots), len(s.Lines), s.Tick)
	}
}

// TestJoining: what was sent is seen from the writer's window's end on, in its
// next window too, and not by another one's end.
func TestJoining(t *testing.T) {
	g := three()
	sender := "lui r2, 2\naddi r3, r0, 4\nhcall 3\nmv r1, r0\nhcall 1\nhalt"
	m := made(t, g, program(t, 1, sender), program(t, 2, "halt"), program(t, 3, "halt"), api.Load{Cell: 1, At: data, Data: []byte{9, 8, 7, 6}})
	l := run(t, m, 6100)
	s := m.State()
	if len(s.Queues[0].Staged) != 1 || len(s.Queues[0].Queued) != 0 || !s.Samples[0].Waits || s.Samples[0].There {
		t.Fatalf("ahead of the end: %+v, %+v", s.Queues[0], s.Samples[0])
	}
	run(t, m, 6101)
	s = m.State()
	q, p := s.Queues[0], s.Samples[0]
	if len(q.Staged) != 0 || len(q.Queued) != 1 || !bytes.Equal(q.Queued[0].Data, []byte{9, 8, 7, 6}) || q.Queued[0].Tick != l[0].Tick {
		t.Errorf("behind the end the queue is %+v", q)
	}
	if p.Waits || !p.There || !bytes.Equal(p.Last.Data, []byte{9, 8, 7, 6}) || p.Last.Tick != l[1].Tick {
		t.Errorf("behind the end the sampling port is %+v", p)
	}
}

// TestOthersEndsMoveNothing: a message that was laid into a sampling port waits
// for its writer's end.
func TestOthersEndsMoveNothing(t *testing.T) {
	m := programmed(t, three(), "halt", "halt", "halt")
	s := m.State()
	s.Samples[1].Waits, s.Samples[1].Next = true, api.Message{Data: []byte{1, 2, 3, 4}, Tick: 77}
	m = resumed(t, s)
	for _, at := range []uint64{6101, 12101, 20001, 30000} {
		run(t, m, at)
		if p := m.State().Samples[1]; !p.Waits || p.There {
			t.Errorf("at %d: %+v", at, p)
		}
	}
	run(t, m, 30001)
	if p := m.State().Samples[1]; p.Waits || !p.There || p.Last.Tick != 77 {
		t.Errorf("behind the writer's end: %+v", p)
	}
}

// TestAllPortsTurn: each of several.
func TestAllPortsTurn(t *testing.T) {
	g := three()
	g.Cells[1].Ranges[1].Pages = 1
	g.Samples = []api.Sample{{Writer: 1, Size: 4, Readers: []int{2}}, {Writer: 1, Size: 4, Readers: []int{3}}}
	g.Queues = []api.Queue{{Writer: 1, Reader: 2, Size: 4, Depth: 1, Quota: 1}, {Writer: 1, Reader: 3, Size: 4, Depth: 1, Quota: 1, Flow: true}}
	source := "addi r1, r0, 0\nhcall 1\naddi r1, r0, 1\nhcall 1\naddi r1, r0, 0\nhcall 3\naddi r1, r0, 1\nhcall 3\nhalt"
	m := programmed(t, g, source, "halt", "halt")
	run(t, m, 6101)
	s := m.State()
	for i := range 2 {
		if !s.Samples[i].There || len(s.Queues[i].Queued) != 1 {
			t.Errorf("ports %d: %+v, %+v", i, s.Samples[i], s.Queues[i])
		}
	}
}
