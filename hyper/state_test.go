package hyper_test

import (
	"bytes"
	"slices"
	"testing"

	"cloister/api"
	"cloister/boot"
	"cloister/memory"
)

// state is what can be seen of a machine, but for TLB and cache.
type state struct {
	memory  *memory.Memory
	gic     api.GicState
	samples []api.SampleState
	queues  []api.QueueState
	roots   []uint32
}

func stateOf(m *boot.Machine) state {
	s := state{memory: m.Memory.Clone(), gic: m.Gic.State(), roots: slices.Clone(m.Roots)}
	for _, p := range m.Samples {
		s.samples = append(s.samples, p.State())
	}
	for _, p := range m.Queues {
		s.queues = append(s.queues, p.State())
	}
	return s
}

func sameMessage(a, b api.Message) bool { return a.Tick == b.Tick && bytes.Equal(a.Data, b.Data) }

func sameSample(a, b api.SampleState) bool {
	return a.There == b.There && a.Waits == b.Waits && sameMessage(a.Last, b.Last) && sameMessage(a.Next, b.Next)
}

func sameQueue(a, b api.QueueState) bool {
	return a.Stat == b.Stat && slices.EqualFunc(a.Queued, b.Queued, sameMessage) && slices.EqualFunc(a.Staged, b.Staged, sameMessage)
}

// wantState: is a machine in that state?
func wantState(t testing.TB, m *boot.Machine, want state) {
	t.Helper()
	got := stateOf(m)
	if !got.memory.Equal(want.memory) {
		t.Errorf("the memory is another one")
	}
	if got.gic != want.gic {
		t.Errorf("the controller has %+v, want %+v", got.gic, want.gic)
	}
	if !slices.EqualFunc(got.samples, want.samples, sameSample) {
		t.Errorf("the sampling ports have %+v, want %+v", got.samples, want.samples)
	}
	if !slices.EqualFunc(got.queues, want.queues, sameQueue) {
		t.Errorf("the queues have %+v, want %+v", got.queues, want.queues)
	}
	if !slices.Equal(got.roots, want.roots) {
		t.Errorf("the roots are %v, want %v", got.roots, want.roots)
	}
}

// wantBytes wants bytes in a cell's memory, by the machine's own memory.
func wantBytes(t testing.TB, m *boot.Machine, physical uint32, want []byte) {
	t.Helper()
	if b, e := m.Memory.Read(physical, len(want)); e != api.OK || !bytes.Equal(b, want) {
		t.Errorf("at %#x: %v, %d, want %v", physical, b, e, want)
	}
}
