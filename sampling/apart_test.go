package sampling_test

import (
	"bytes"
	"slices"
	"sync"
	"testing"

	"cloister/api"
)

// scribble writes over a list and what stands behind it.
func scribble(l []byte) {
	l = l[:cap(l)]
	for i := range l {
		l[i] = 0xee
	}
}

// roomy is n bytes with room behind them, and all of that.
func roomy(n int) (list, whole []byte) {
	whole = counted(n + 40)
	return whole[:n], whole
}

// TestNothingIsChanged: neither what is handed in, nor what stands behind it,
// whatever the answer is.
func TestNothingIsChanged(t *testing.T) {
	for n := range 20 {
		p := port(t, 1, 8, 2)
		data, whole := roomy(n)
		p.Write(1, 3, data)
		p.Turn(1)
		p.Write(1, 4, data)
		p.Write(1, 5, data)
		p.Write(2, 5, data)
		last, next := api.Message{Data: data}, api.Message{Data: data}
		p.Load(api.SampleState{There: true, Last: last})
		p.Load(api.SampleState{Waits: true, Next: next})
		p.Load(api.SampleState{There: true, Waits: true, Last: last, Next: next})
		p.Load(api.SampleState{Last: last, Next: next})
		p.Write(1, 6, counted(8))
		p.Turn(1)
		p.Write(1, 7, counted(8))
		p.Turn(1)
		p.Read(2)
		if !bytes.Equal(whole, counted(n+40)) {
			t.Errorf("%d bytes were changed: %v", n, whole)
		}
	}
}

func TestDeclarationIsNotChangedNorKept(t *testing.T) {
	whole := []int{2, 3, 4, 5}
	s := declare(1, 8, whole[:2]...)
	wantNew(t, s, api.OK)
	if !slices.Equal(whole, []int{2, 3, 4, 5}) {
		t.Errorf("the readers were changed: %v", whole)
	}
	p := port(t, s.Writer, s.Size, s.Readers...)
	whole[0], whole[1], s.Writer, s.Size = 6, 7, 8, 4
	wantWrite(t, p, 8, 3, counted(4), api.ErrSamplingWho)
	wantWrite(t, p, 1, 3, counted(8), api.OK)
	wantTurn(t, p, 1, 8)
	wantRead(t, p, 2, counted(8), 3)
	wantRead(t, p, 3, counted(8), 3)
	for _, cell := range []int{4, 5, 6, 7} {
		wantNoRead(t, p, cell, api.ErrSamplingWho)
	}
}

// TestNothingIsKept: what was written or loaded may be changed later.
func TestNothingIsKept(t *testing.T) {
	p := port(t, 1, 8, 2)
	data, whole := roomy(8)
	wantWrite(t, p, 1, 3, data, api.OK)
	scribble(whole)
	wantState(t, "written", p, api.SampleState{Waits: true, Next: message(8, 3)})
	wantTurn(t, p, 1, 8)
	wantRead(t, p, 2, counted(8), 3)

	one, first := roomy(4)
	two, second := roomy(8)
	wantLoad(t, p, api.SampleState{There: true, Last: api.Message{Data: one, Tick: 4}, Waits: true, Next: api.Message{Data: two, Tick: 5}}, api.OK)
	scribble(first)
	scribble(second)
	wantIs(t, p, api.SampleState{There: true, Last: message(4, 4), Waits: true, Next: message(8, 5)})
}

// TestLoadOfOneList: of two messages that share their bytes two are made.
func TestLoadOfOneList(t *testing.T) {
	p := port(t, 1, 8, 2)
	m := message(8, 4)
	wantLoad(t, p, api.SampleState{There: true, Waits: true, Last: m, Next: m}, api.OK)
	s := p.State()
	scribble(s.Last.Data)
	if !bytes.Equal(s.Next.Data, counted(8)) {
		t.Errorf("what is told is %v", s.Next.Data)
	}
	wantIs(t, p, api.SampleState{There: true, Waits: true, Last: m, Next: m})
}

// TestAnswersAreNewMemory: whoever writes into one changes no other, nor the
// port.
func TestAnswersAreNewMemory(t *testing.T) {
	for _, s := range states() {
		p := port(t, 1, 8, 2, 3)
		wantLoad(t, p, s, api.OK)
		kept, _, _, _ := p.Read(2)
		own := p.State()
		for range 3 {
			b, _, _, _ := p.Read(2)
			scribble(b)
			b, _, _, _ = p.Read(3)
			scribble(b)
			told := p.State()
			scribble(told.Last.Data)
			if !sameMessage(told.Next, s.Next) {
				t.Errorf("of %+v both messages share memory", s)
			}
			scribble(told.Next.Data)
		}
		if !bytes.Equal(kept, s.Last.Data) || !sameState(own, s) {
			t.Errorf("of %+v is left %v and %+v", s, kept, own)
		}
		wantIs(t, p, s)
	}
}

// TestAnswersStay: what was told is not changed by what is done later.
func TestAnswersStay(t *testing.T) {
	p := port(t, 1, 8, 2)
	want := api.SampleState{There: true, Last: message(8, 1), Waits: true, Next: message(4, 2)}
	wantLoad(t, p, want, api.OK)
	told, state := api.Message{Tick: 1}, p.State()
	told.Data, _, _, _ = p.Read(2)
	for range 4 {
		wantWrite(t, p, 1, 9, bytes.Repeat([]byte{7}, 8), api.OK)
		wantTurn(t, p, 1, 8)
	}
	wantLoad(t, p, api.SampleState{}, api.OK)
	if !sameMessage(told, want.Last) || !sameState(state, want) {
		t.Errorf("what was told is now %+v and %+v", told, state)
	}
}

// TestPortsAreApart: two of one declaration, and one that was loaded with the
// other one's state, know nothing of each other.
func TestPortsAreApart(t *testing.T) {
	s := declare(1, 8, 2)
	p, q := port(t, s.Writer, s.Size, s.Readers...), port(t, s.Writer, s.Size, s.Readers...)
	wantWrite(t, p, 1, 3, counted(8), api.OK)
	wantState(t, "another", q, api.SampleState{})
	wantTurn(t, q, 1, 0)
	wantTurn(t, p, 1, 8)
	wantNoRead(t, q, 2, api.OK)
	wantLoad(t, q, p.State(), api.OK)
	wantWrite(t, p, 1, 4, counted(4), api.OK)
	wantTurn(t, p, 1, 4)
	wantState(t, "loaded", q, api.SampleState{There: true, Last: message(8, 3)})
	wantWrite(t, q, 1, 5, nil, api.OK)
	wantTurn(t, q, 1, 0)
	wantState(t, "from which it was loaded", p, api.SampleState{There: true, Last: message(4, 4)})
}

// TestManyAtOnce: ports know nothing of one another, and reading changes
// nothing (the race detector would tell).
func TestManyAtOnce(t *testing.T) {
	common := port(t, 1, 8, 2)
	wantWrite(t, common, 1, 3, counted(8), api.OK)
	wantTurn(t, common, 1, 8)
	var all sync.WaitGroup
	for i := range 8 {
		own := port(t, 1, 8, 2)
		all.Go(func() {
			for n := range 50 {
				tick := uint64(100*i + n)
				wantWrite(t, own, 1, tick, counted(4), api.OK)
				wantTurn(t, own, 1, 4)
				wantRead(t, own, 2, counted(4), tick)
				wantRead(t, common, 2, counted(8), 3)
				wantState(t, "at once", common, api.SampleState{There: true, Last: message(8, 3)})
			}
		})
	}
	all.Wait()
}
