package sampling_test

import (
	"bytes"
	"testing"

	"cloister/api"
	"cloister/sampling"
)

func sameMessage(a, b api.Message) bool { return bytes.Equal(a.Data, b.Data) && a.Tick == b.Tick }

func sameState(a, b api.SampleState) bool {
	return a.There == b.There && a.Waits == b.Waits && sameMessage(a.Last, b.Last) && sameMessage(a.Next, b.Next)
}

func wantState(t *testing.T, what string, p *sampling.Port, want api.SampleState) {
	t.Helper()
	if s := p.State(); !sameState(s, want) {
		t.Errorf("%s: State() = %+v, want %+v", what, s, want)
	}
}

func wantLoad(t *testing.T, p *sampling.Port, s api.SampleState, want api.Errno) {
	t.Helper()
	if e := p.Load(s); e != want {
		t.Errorf("Load(%+v) = %d, want %d", s, e, want)
	}
}

func message(n int, tick uint64) api.Message { return api.Message{Data: counted(n), Tick: tick} }

// states are some of a port of Size 8: each of the two there and not.
func states() []api.SampleState {
	l := []api.SampleState{{}}
	for _, m := range []api.Message{message(0, 0), message(0, 5), message(4, 0), message(8, 9), message(8, 1<<64-1)} {
		l = append(l, api.SampleState{There: true, Last: m}, api.SampleState{Waits: true, Next: m})
		for _, n := range []api.Message{message(0, 0), message(4, 3), message(8, 1<<63)} {
			l = append(l, api.SampleState{There: true, Last: m, Waits: true, Next: n})
		}
	}
	return l
}

// wantIs holds all that can be asked of a port against its state.
func wantIs(t *testing.T, p *sampling.Port, s api.SampleState) {
	t.Helper()
	wantState(t, "loaded", p, s)
	wantSeen(t, p, s.There, s.Last)
	wantTurn(t, p, 1, len(s.Next.Data))
	if s.Waits {
		s = api.SampleState{There: true, Last: s.Next}
	}
	wantSeen(t, p, s.There, s.Last)
	wantTurn(t, p, 1, 0)
	wantState(t, "loaded, turned", p, s)
}

func wantSeen(t *testing.T, p *sampling.Port, there bool, m api.Message) {
	t.Helper()
	if there {
		wantRead(t, p, 2, m.Data, m.Tick)
	} else {
		wantNoRead(t, p, 2, api.OK)
	}
}

// TestLoad: each state in the place of each other one, whichever of the two is
// which just then.
func TestLoad(t *testing.T) {
	for turns := range 3 {
		for _, first := range states() {
			for _, s := range states() {
				p := port(t, 1, 8, 2, 3)
				for range turns {
					wantWrite(t, p, 1, 99, counted(4), api.OK)
					wantTurn(t, p, 1, 4)
				}
				wantLoad(t, p, first, api.OK)
				wantState(t, "first", p, first)
				wantLoad(t, p, s, api.OK)
				wantIs(t, p, s)
			}
		}
	}
}

// TestLoadWrites: what was loaded as waiting gives way to what is written.
func TestLoadWrites(t *testing.T) {
	for _, s := range states() {
		p := port(t, 1, 8, 2, 3)
		wantLoad(t, p, s, api.OK)
		wantWrite(t, p, 1, 12, counted(4), api.OK)
		wantSeen(t, p, s.There, s.Last)
		s.Waits, s.Next = true, message(4, 12)
		wantIs(t, p, s)
	}
}

// TestLoadLengths: at the port's own Size, of both messages.
func TestLoadLengths(t *testing.T) {
	for size := 4; size <= maxSize; size += 4 {
		p := port(t, 1, size, 2)
		for n := 0; n <= maxSize+8; n++ {
			want := api.OK
			if n > size || n%4 != 0 {
				want = api.ErrSamplingArg
			}
			m := message(n, 7)
			wantLoad(t, p, api.SampleState{There: true, Last: m}, want)
			wantLoad(t, p, api.SampleState{Waits: true, Next: m}, want)
			wantLoad(t, p, api.SampleState{There: true, Waits: true, Last: m, Next: message(4, 3)}, want)
			wantLoad(t, p, api.SampleState{There: true, Waits: true, Last: message(4, 3), Next: m}, want)
		}
	}
}

// noStates are none of a port of Size 8.
func noStates() []api.SampleState {
	var l []api.SampleState
	for _, n := range []int{1, 2, 3, 5, 7, 9, 11, 12, 16, 256, 260, 1 << 20} {
		for _, tick := range []uint64{0, 7} {
			m := message(n, tick)
			l = append(l,
				api.SampleState{There: true, Last: m}, api.SampleState{Waits: true, Next: m},
				api.SampleState{There: true, Waits: true, Last: m}, api.SampleState{There: true, Waits: true, Next: m},
				api.SampleState{There: true, Waits: true, Last: m, Next: m})
		}
	}
	for _, m := range []api.Message{message(0, 1), message(0, 1<<63), message(4, 0), message(4, 1), message(8, 0), message(3, 0), message(12, 1), {Data: make([]byte, 4)}} {
		l = append(l,
			api.SampleState{Last: m}, api.SampleState{Next: m}, api.SampleState{Last: m, Next: m},
			api.SampleState{There: true, Next: m}, api.SampleState{Waits: true, Last: m},
			api.SampleState{There: true, Last: message(4, 1), Next: m}, api.SampleState{Waits: true, Last: m, Next: message(4, 1)})
	}
	return l
}

// TestLoadRefused: nothing is changed, of neither of the two.
func TestLoadRefused(t *testing.T) {
	for _, s := range states() {
		p := port(t, 1, 8, 2, 3)
		wantLoad(t, p, s, api.OK)
		for _, wrong := range noStates() {
			wantLoad(t, p, wrong, api.ErrSamplingArg)
			if got := p.State(); !sameState(got, s) {
				t.Fatalf("Load(%+v): %+v is %+v", wrong, s, got)
			}
		}
		wantIs(t, p, s)
	}
}

// TestLoadEmptyLists: of what is not there a list without bytes is none.
func TestLoadEmptyLists(t *testing.T) {
	for _, nothing := range [][]byte{nil, {}, counted(8)[:0]} {
		p := port(t, 1, 8, 2)
		wantLoad(t, p, states()[9], api.OK)
		wantLoad(t, p, api.SampleState{Last: api.Message{Data: nothing}, Next: api.Message{Data: nothing}}, api.OK)
		wantIs(t, p, api.SampleState{})
	}
}

// TestLoadKeepsTheDeclaration: who writes and reads, and how much, is the
// port's own.
func TestLoadKeepsTheDeclaration(t *testing.T) {
	from := port(t, 1, 8, 2)
	wantWrite(t, from, 1, 5, counted(4), api.OK)
	wantTurn(t, from, 1, 4)
	wantWrite(t, from, 1, 6, counted(0), api.OK)
	p := port(t, 3, 4, 4, 5)
	wantLoad(t, p, from.State(), api.OK)
	wantNoRead(t, p, 2, api.ErrSamplingWho)
	wantWrite(t, p, 1, 7, counted(4), api.ErrSamplingWho)
	wantWrite(t, p, 3, 7, counted(8), api.ErrSamplingLong)
	wantRead(t, p, 5, counted(4), 5)
	wantTurn(t, p, 1, 0)
	wantRead(t, p, 4, counted(4), 5)
	wantTurn(t, p, 3, 0)
	wantRead(t, p, 4, nil, 6)
}

// TestStateChangesNothing: it is told again and again.
func TestStateChangesNothing(t *testing.T) {
	for _, s := range states() {
		p := port(t, 1, 8, 2, 3)
		wantLoad(t, p, s, api.OK)
		for range 3 {
			wantState(t, "told", p, s)
		}
		wantIs(t, p, s)
	}
}
