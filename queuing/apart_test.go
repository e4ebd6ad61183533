package queuing_test

import (
	"bytes"
	"slices"
	"sync"
	"testing"

	"cloister/api"
	"cloister/queuing"
)

// scribble writes over a list and what stands behind it.
func scribble(l []byte) {
	l = l[:cap(l)]
	for i := range l {
		l[i] = 0xee
	}
}

// scribbleAll writes over messages, their bytes and what stands behind them.
func scribbleAll(l []api.Message) {
	for _, m := range l {
		scribble(m.Data)
	}
	l = l[:cap(l)]
	for i := range l {
		l[i] = api.Message{Data: []byte{0xee}, Tick: 0xee}
	}
}

// roomy is n bytes with room behind them, and all of that.
func roomy(n int) (list, whole []byte) {
	whole = counted(n + 40)
	return whole[:n], whole
}

// roomyList is n messages with room behind them, and all of that; all share
// their bytes.
func roomyList(n int, data []byte) (list, whole []api.Message) {
	for i := range n + 8 {
		whole = append(whole, api.Message{Data: data, Tick: uint64(i)})
	}
	return whole[:n], whole
}

// use does all that can be done with a port from cell 1 to cell 2.
func use(p *queuing.Port) {
	for range 3 {
		p.Send(1, 7, counted(8))
		p.Turn(1)
		p.Receive(2)
		p.Send(1, 8, counted(4))
		p.Send(1, 9, counted(4))
		p.Turn(1)
		p.State()
	}
}

// TestNothingIsChanged: neither what is handed in, nor what stands behind it,
// whatever the answer is.
func TestNothingIsChanged(t *testing.T) {
	for _, q := range both() {
		for n := range 20 {
			p := port(t, q)
			data, whole := roomy(n)
			for range 4 {
				p.Send(1, 3, data)
			}
			p.Send(2, 5, data)
			use(p)
			for queued := range 5 {
				list, all := roomyList(queued, data)
				more, rest := roomyList(2, data)
				p.Load(stateOf(0, 0, list, nil))
				use(p)
				p.Load(stateOf(0, 0, nil, list))
				use(p)
				p.Load(stateOf(0, 0, list, more))
				use(p)
				_, same := roomyList(queued, counted(n))
				_, too := roomyList(2, counted(n))
				if !slices.EqualFunc(all, same, sameMessage) || !slices.EqualFunc(rest, too, sameMessage) {
					t.Errorf("%d messages of %d bytes were changed", queued, n)
				}
			}
			if !bytes.Equal(whole, counted(n+40)) {
				t.Errorf("%d bytes were changed: %v", n, whole)
			}
		}
	}
}

// TestNothingIsKept: what was sent or loaded may be changed later.
func TestNothingIsKept(t *testing.T) {
	for _, q := range both() {
		p := port(t, q)
		data, whole := roomy(8)
		wantSend(t, p, 1, 3, data, api.OK)
		scribble(whole)
		wantState(t, "sent", p, stateOf(0, 0, nil, list(message(8, 3))))
		wantTurn(t, p, 1, 8)
		wantReceive(t, p, 2, counted(8), 3)

		for _, s := range states(q.Flow) {
			given := api.QueueState{Stat: s.Stat, Queued: append(make([]api.Message, 0, 9), list(s.Queued...)...), Staged: append(make([]api.Message, 0, 9), list(s.Staged...)...)}
			wantLoad(t, p, given, api.OK)
			scribbleAll(given.Queued)
			scribbleAll(given.Staged)
			wantIs(t, p, q, s)
		}
	}
}

// TestLoadOfOneList: of messages that share their bytes, and lists that share
// their messages, each is made of its own.
func TestLoadOfOneList(t *testing.T) {
	p := port(t, oneWay(8, 2, 2))
	m := message(8, 4)
	l := []api.Message{m, m}
	wantLoad(t, p, stateOf(0, 0, l, l), api.OK)
	want := stateOf(0, 0, list(m, m), list(m, m))
	s := p.State()
	scribble(s.Queued[0].Data)
	scribble(s.Staged[1].Data)
	if !sameMessage(s.Queued[1], m) || !sameMessage(s.Staged[0], m) {
		t.Errorf("what is told is %+v", s)
	}
	one, _, _, _ := p.Receive(2)
	scribble(one)
	want = stateOf(1, 0, want.Queued[1:], want.Staged)
	wantIs(t, p, oneWay(8, 2, 2), want)
}

// TestAnswersAreNewMemory: whoever writes into one changes no other, nor the
// port.
func TestAnswersAreNewMemory(t *testing.T) {
	for _, q := range both() {
		for _, s := range states(q.Flow) {
			p := port(t, q)
			wantLoad(t, p, s, api.OK)
			own := p.State()
			for range 3 {
				told := p.State()
				scribbleAll(told.Queued)
				if !slices.EqualFunc(told.Staged, s.Staged, sameMessage) {
					t.Errorf("of %+v both lists share memory", s.Stat)
				}
				scribbleAll(told.Staged)
			}
			if !sameState(own, s) {
				t.Errorf("of %+v is left %+v", s, own)
			}
			wantIs(t, p, q, s)
		}
	}
}

// TestMessagesAreApart: of one list each message has bytes of its own, spare
// room too.
func TestMessagesAreApart(t *testing.T) {
	p := port(t, oneWay(8, 3, 2))
	s := stateOf(0, 0, list(message(4, 1), message(8, 2), message(4, 3)), list(message(8, 4), message(4, 5)))
	wantLoad(t, p, s, api.OK)
	for i := range s.Queued {
		told := p.State()
		scribble(told.Queued[i].Data)
		for j, m := range told.Queued {
			if j != i && !sameMessage(m, s.Queued[j]) {
				t.Errorf("messages %d and %d share memory", i, j)
			}
		}
	}
	for _, m := range s.Queued { // what was received may be written over at once
		b, tick, _, _ := p.Receive(2)
		if !sameMessage(api.Message{Data: b, Tick: tick}, m) {
			t.Errorf("received: %v, want %v", b, m.Data)
		}
		scribble(b)
	}
	wantIs(t, p, oneWay(8, 3, 2), stateOf(3, 0, nil, s.Staged))
}

// TestAnswersStay: what was told or received is not changed by what is done
// later.
func TestAnswersStay(t *testing.T) {
	for _, q := range both() {
		p := port(t, q)
		want := stateOf(0, 0, list(message(8, 1), message(4, 2)), list(message(8, 3)))
		wantLoad(t, p, want, api.OK)
		state := p.State()
		one, _, _, _ := p.Receive(2)
		wantTurn(t, p, 1, 8)
		two, _, _, _ := p.Receive(2)
		three, _, _, _ := p.Receive(2)
		for range 9 {
			wantSend(t, p, 1, 9, bytes.Repeat([]byte{7}, 8), api.OK)
			wantTurn(t, p, 1, 8)
			p.Receive(2)
		}
		wantLoad(t, p, api.QueueState{}, api.OK)
		if !bytes.Equal(one, counted(8)) || !bytes.Equal(two, counted(4)) || !bytes.Equal(three, counted(8)) || !sameState(state, want) {
			t.Errorf("what was told is now %v, %v, %v and %+v", one, two, three, state)
		}
	}
}

// TestPortsAreApart: two of one declaration, and one that was loaded with the
// other one's state, know nothing of each other.
func TestPortsAreApart(t *testing.T) {
	d := flow(8, 2)
	p, q := port(t, d), port(t, d)
	d.Writer, d.Depth, d.Flow = 5, 1, false // nor is the declaration kept as it is
	wantSends(t, p, 3)
	wantState(t, "another", q, api.QueueState{})
	wantTurn(t, q, 1, 0)
	wantTurn(t, p, 1, 4)
	wantNone(t, q, 2, api.OK)
	wantSends(t, p, 4)
	wantLoad(t, q, p.State(), api.OK)
	wantReceives(t, p, 3)
	wantTurn(t, p, 1, 4)
	wantSends(t, p, 5)
	wantState(t, "loaded", q, stateOf(0, 0, list(message(4, 3)), list(message(4, 4))))
	wantTurn(t, q, 1, 4)
	wantReceives(t, q, 3, 4)
	wantState(t, "from which it was loaded", p, stateOf(1, 0, list(message(4, 4)), list(message(4, 5))))
}

// TestManyAtOnce: ports know nothing of one another, and telling changes
// nothing (the race detector would tell).
func TestManyAtOnce(t *testing.T) {
	common := port(t, oneWay(8, 2, 2))
	s := stateOf(1, 2, list(message(8, 1)), list(message(4, 3), message(8, 9)))
	wantLoad(t, common, s, api.OK)
	var all sync.WaitGroup
	for i := range 8 {
		own := port(t, flow(4, 1))
		all.Go(func() {
			for n := range 50 {
				tick := uint64(100*i + n)
				wantSends(t, own, tick)
				wantTurn(t, own, 1, 4)
				wantReceives(t, own, tick)
				wantState(t, "at once", common, s)
				wantStat(t, common, s.Stat)
			}
		})
	}
	all.Wait()
}
