package queuing_test

import (
	"bytes"
	"math"
	"math/big"
	"slices"
	"testing"

	"cloister/api"
	"cloister/queuing"
)

func message(n int, tick uint64) api.Message { return api.Message{Data: counted(n), Tick: tick} }

// list is messages in memory of their own.
func list(l ...api.Message) []api.Message {
	l = slices.Clone(l)
	for i := range l {
		l[i].Data = bytes.Clone(l[i].Data)
	}
	return l
}

// stateOf is a state whose numbers agree.
func stateOf(received, lost int, queued, staged []api.Message) api.QueueState {
	return api.QueueState{
		Stat:   api.QueueStat{Accepted: received + len(queued) + len(staged) + lost, Received: received, Queued: len(queued), Staged: len(staged), Lost: lost},
		Queued: queued,
		Staged: staged,
	}
}

func sameMessage(a, b api.Message) bool { return bytes.Equal(a.Data, b.Data) && a.Tick == b.Tick }

func sameState(a, b api.QueueState) bool {
	return a.Stat == b.Stat && slices.EqualFunc(a.Queued, b.Queued, sameMessage) && slices.EqualFunc(a.Staged, b.Staged, sameMessage)
}

func wantState(t *testing.T, what string, p *queuing.Port, want api.QueueState) {
	t.Helper()
	if s := p.State(); !sameState(s, want) {
		t.Errorf("%s: State() = %+v, want %+v", what, s, want)
	}
}

func wantLoad(t *testing.T, p *queuing.Port, s api.QueueState, want api.Errno) {
	t.Helper()
	if e := p.Load(s); e != want {
		t.Errorf("Load(%+v) = %d, want %d", s.Stat, e, want)
	}
}

// some is n messages, all of them unlike, of up to 8 bytes.
func some(n int, tick uint64) []api.Message {
	var l []api.Message
	for i := range n {
		l = append(l, message(i%3*4, tick+uint64(i)))
	}
	return l
}

// wantIs holds all that can be asked of a port from cell 1 to cell 2 against
// its state, and leaves it without a message.
func wantIs(t *testing.T, p *queuing.Port, q api.Queue, s api.QueueState) {
	t.Helper()
	wantState(t, "is", p, s)
	wantStat(t, p, s.Stat)
	room := min(q.Depth-len(s.Queued), len(s.Staged))
	moved := 0
	for _, m := range s.Staged[:room] {
		moved += len(m.Data)
	}
	wantTurn(t, p, 1, moved)
	all := list(append(slices.Clone(s.Queued), s.Staged[:room]...)...)
	lost := s.Stat.Lost + len(s.Staged) - room
	wantState(t, "is, turned", p, stateOf(s.Stat.Received, lost, all, nil))
	for _, m := range all {
		wantReceive(t, p, 2, m.Data, m.Tick)
	}
	wantNone(t, p, 2, api.OK)
	wantState(t, "is, received", p, stateOf(s.Stat.Received+len(all), lost, nil, nil))
}

// states are some of a port of Size 8, Depth 3, Quota 2, one-way or not.
func states(flow bool) []api.QueueState {
	var l []api.QueueState
	for queued := range 4 {
		for staged := range 4 {
			if flow && queued+staged > 3 || !flow && staged > 2 {
				continue
			}
			for _, received := range []int{0, 1, 1000, limit - 12} {
				for _, lost := range []int{0, 1, 7} {
					if !flow || lost == 0 {
						l = append(l, stateOf(received, lost, some(queued, 5), some(staged, 1<<63)))
					}
				}
			}
		}
	}
	return l
}

// both are a flow-controlled port and a one-way one, of which states tells.
func both() []api.Queue {
	f := flow(8, 3)
	f.Quota = 2
	return []api.Queue{f, oneWay(8, 3, 2)}
}

// TestLoad: each state in the place of each other one.
func TestLoad(t *testing.T) {
	for _, q := range both() {
		for _, first := range states(q.Flow) {
			for _, s := range states(q.Flow) {
				p := port(t, q)
				wantSends(t, p, 1, 2)
				wantLoad(t, p, first, api.OK)
				wantState(t, "first", p, first)
				wantLoad(t, p, s, api.OK)
				wantIs(t, p, q, s)
			}
		}
	}
}

// TestLoadSends: as many as there is room for, behind those that were loaded.
func TestLoadSends(t *testing.T) {
	for _, q := range both() {
		for _, s := range states(q.Flow) {
			p := port(t, q)
			wantLoad(t, p, s, api.OK)
			room := q.Quota - len(s.Staged)
			if q.Flow {
				room = q.Depth - len(s.Queued) - len(s.Staged)
			}
			more := some(room, 77)
			for _, m := range more {
				wantSend(t, p, 1, m.Tick, m.Data, api.OK)
			}
			wantSend(t, p, 1, 1, counted(4), api.ErrQueuingFull)
			wantIs(t, p, q, stateOf(s.Stat.Received, s.Stat.Lost, s.Queued, append(slices.Clone(s.Staged), more...)))
		}
	}
}

// TestLoadLengths: at the port's own Size, of each message.
func TestLoadLengths(t *testing.T) {
	for size := 4; size <= maxSize; size += 4 {
		for _, q := range []api.Queue{flow(size, 3), oneWay(size, 3, 3)} {
			p := port(t, q)
			for n := 0; n <= maxSize+8; n++ {
				want := api.OK
				if n > size || n%4 != 0 {
					want = api.ErrQueuingArg
				}
				for at := range 3 {
					l := list(message(4, 1), message(0, 2), message(4, 3))
					l[at] = message(n, 9)
					wantLoad(t, p, stateOf(0, 0, l, nil), want)
					wantLoad(t, p, stateOf(0, 0, nil, l), want)
					wantLoad(t, p, stateOf(0, 0, l[:1], l[1:]), want)
				}
			}
		}
	}
}

func TestLoadTicks(t *testing.T) {
	for _, q := range both() {
		for _, tick := range ticks() {
			for _, other := range ticks() {
				p := port(t, q)
				s := stateOf(0, 0, list(message(4, tick), message(0, other)), list(message(8, tick)))
				wantLoad(t, p, s, api.OK)
				wantIs(t, p, q, s)
			}
		}
	}
}

// TestLoadRoom: how many can be queued and staged, at all Depths and Quotas;
// on a flow-controlled port nothing hangs on Quota.
func TestLoadRoom(t *testing.T) {
	for depth := 1; depth <= maxDepth; depth++ {
		for _, quota := range []int{1, 2, 3, 8, 15, 16} {
			f := flow(8, depth)
			f.Quota = quota
			p, o := port(t, f), port(t, oneWay(8, depth, quota))
			for _, queued := range []int{0, 1, depth - 1, depth, depth + 1, maxDepth, maxDepth + 1} {
				for _, staged := range []int{0, 1, quota - 1, quota, quota + 1, depth - queued, depth - queued + 1, depth + 1, maxQuota, maxQuota + 1} {
					if staged < 0 {
						continue
					}
					s := stateOf(4, 0, some(queued, 1), some(staged, 100))
					wantRoom(t, p, s, queued+staged <= depth)
					wantRoom(t, o, s, queued <= depth && staged <= quota)
				}
			}
		}
	}
}

func wantRoom(t *testing.T, p *queuing.Port, s api.QueueState, room bool) {
	t.Helper()
	if room {
		wantLoad(t, p, s, api.OK)
		wantState(t, "loaded", p, s)
	} else {
		wantLoad(t, p, s, api.ErrQueuingArg)
	}
}

func TestLoadLost(t *testing.T) {
	p, o := port(t, flow(8, 3)), port(t, oneWay(8, 3, 2))
	for _, lost := range []int{1, 2, 1000, limit - 2} {
		s := stateOf(1, lost, some(1, 1), nil)
		wantLoad(t, p, s, api.ErrQueuingArg)
		wantLoad(t, o, s, api.OK)
		wantState(t, "loaded", o, s)
	}
}

// addsUp tells by numbers without a bound whether a state's agree with its
// messages, with one another, and with what may be lost.
func addsUp(q api.Queue, s api.QueueState) bool {
	n := s.Stat
	sum := new(big.Int)
	for _, part := range []int{n.Received, n.Lost, len(s.Queued), len(s.Staged)} {
		sum.Add(sum, big.NewInt(int64(part)))
	}
	switch {
	case n.Queued != len(s.Queued) || n.Staged != len(s.Staged):
		return false
	case n.Received < 0 || n.Lost < 0 || q.Flow && n.Lost > 0:
		return false
	}
	return sum.Cmp(big.NewInt(limit)) <= 0 && sum.Cmp(big.NewInt(int64(n.Accepted))) == 0
}

// edges are numbers that are near a bound, or far off.
func edges() []int {
	return []int{0, 1, 2, 3, 7, -1, -2, -3, limit / 2, limit - 3, limit - 2, limit - 1, limit, limit + 1, limit + 2, 1 << 62, math.MaxInt - 2, math.MaxInt - 1, math.MaxInt, math.MinInt, math.MinInt + 1}
}

// wantNumbers loads that, and tells whether it was taken as it should be.
func wantNumbers(t *testing.T, p *queuing.Port, q api.Queue, s api.QueueState) {
	t.Helper()
	want := api.ErrQueuingArg
	if addsUp(q, s) {
		want = api.OK
	}
	wantLoad(t, p, s, want)
}

// TestLoadNumbers: numbers agree with one another, and do not wrap round to
// that.
func TestLoadNumbers(t *testing.T) {
	for _, q := range []api.Queue{flow(8, maxDepth), oneWay(8, maxDepth, maxQuota)} {
		p := port(t, q)
		for own := range 5 {
			s := stateOf(0, 0, some(own-own/2, 1), some(own/2, 100))
			for _, s.Stat.Received = range edges() {
				for _, s.Stat.Lost = range edges() {
					for _, off := range edges() {
						s.Stat.Accepted = off
						wantNumbers(t, p, q, s)
						s.Stat.Accepted = s.Stat.Received + s.Stat.Lost + own + off
						wantNumbers(t, p, q, s)
					}
				}
			}
		}
	}
}

// TestLoadHowMany: Queued and Staged are as many as there are, also where all
// of them together are.
func TestLoadHowMany(t *testing.T) {
	for _, q := range []api.Queue{flow(8, maxDepth), oneWay(8, maxDepth, maxQuota)} {
		p := port(t, q)
		for queued := range 4 {
			for staged := range 4 {
				s := stateOf(9, 0, some(queued, 1), some(staged, 100))
				for _, s.Stat.Queued = range edges() {
					for _, s.Stat.Staged = range edges() {
						s.Stat.Accepted = 9 + queued + staged
						wantNumbers(t, p, q, s)
						s.Stat.Accepted = 9 + s.Stat.Queued + s.Stat.Staged
						wantNumbers(t, p, q, s)
					}
				}
			}
		}
	}
}

// TestLoadAtTheLimit: just as many as may be accepted.
func TestLoadAtTheLimit(t *testing.T) {
	for _, q := range both() {
		for _, more := range []int{0, 1, 2} {
			p := port(t, q)
			s := stateOf(limit-3+more, 0, some(2, 1), some(1, 9))
			want := api.OK
			if more > 0 {
				want = api.ErrQueuingArg
			}
			wantLoad(t, p, s, want)
			if !q.Flow {
				wantLoad(t, p, stateOf(0, limit-3+more, some(2, 1), some(1, 9)), want)
				wantLoad(t, p, stateOf(1<<59, 1<<59-3+more, some(2, 1), some(1, 9)), want)
			}
		}
	}
}

// noStates are none of the ports of both.
func noStates(flow bool) []api.QueueState {
	l := []api.QueueState{
		stateOf(0, 0, some(4, 1), nil), stateOf(0, 0, nil, some(4, 1)), stateOf(0, 0, some(4, 1), some(1, 1)),
		stateOf(-1, 0, nil, nil), stateOf(-1, 0, some(1, 1), nil), stateOf(0, -1, some(1, 1), nil), stateOf(limit+1, 0, nil, nil),
		{Stat: api.QueueStat{Accepted: 1}}, {Stat: api.QueueStat{Received: 1}}, {Stat: api.QueueStat{Queued: 1}}, {Stat: api.QueueStat{Staged: 1}}, {Stat: api.QueueStat{Lost: 1}},
		{Stat: api.QueueStat{Accepted: 1, Queued: 1}}, {Stat: api.QueueStat{Accepted: 1, Staged: 1}}, {Queued: some(1, 1)}, {Staged: some(1, 1)},
		{Stat: api.QueueStat{Accepted: 1}, Queued: some(1, 1)}, {Stat: api.QueueStat{Accepted: 1, Staged: 1}, Queued: some(1, 1)},
		stateOf(0, 0, make([]api.Message, 1<<20), nil), stateOf(0, 0, nil, make([]api.Message, 1<<20)),
	}
	for _, n := range []int{1, 2, 3, 5, 7, 9, 11, 12, 16, 256, 260, 1 << 20} {
		l = append(l, stateOf(0, 0, list(message(n, 1)), nil), stateOf(0, 0, nil, list(message(n, 1))), stateOf(0, 0, list(message(4, 1)), list(message(4, 2), message(n, 1))))
	}
	if flow {
		return append(l, stateOf(0, 1, nil, nil), stateOf(0, 0, some(2, 1), some(2, 1)), stateOf(0, 0, some(3, 1), some(1, 1)))
	}
	return append(l, stateOf(0, 0, nil, some(3, 1)), stateOf(0, 0, some(3, 1), some(3, 1)))
}

// TestLoadRefused: nothing is changed.
func TestLoadRefused(t *testing.T) {
	for _, q := range both() {
		wrong := noStates(q.Flow)
		for _, s := range states(q.Flow) {
			p := port(t, q)
			wantLoad(t, p, s, api.OK)
			for i, w := range wrong {
				if e := p.Load(w); e != api.ErrQueuingArg {
					t.Fatalf("Flow %v: Load of wrong state %d = %d", q.Flow, i, e)
				}
			}
			wantIs(t, p, q, s)
		}
	}
}

// TestLoadEmptyLists: a list that has nothing in it may be nil or not.
func TestLoadEmptyLists(t *testing.T) {
	for _, q := range both() {
		for _, nothing := range [][]api.Message{nil, {}, some(2, 1)[:0]} {
			p := port(t, q)
			wantSends(t, p, 1)
			wantLoad(t, p, api.QueueState{Queued: nothing, Staged: nothing}, api.OK)
			wantIs(t, p, q, api.QueueState{})
		}
	}
}

// TestLoadKeepsTheDeclaration: who writes and reads, and how much, is the
// port's own.
func TestLoadKeepsTheDeclaration(t *testing.T) {
	from := port(t, oneWay(8, 1, 2))
	wantSends(t, from, 5)
	wantTurn(t, from, 1, 4)
	wantSends(t, from, 6)
	p := port(t, api.Queue{Writer: 3, Reader: 4, Size: 4, Depth: 3, Quota: 1, Flow: true})
	wantLoad(t, p, from.State(), api.OK)
	wantNone(t, p, 2, api.ErrQueuingWho)
	wantSend(t, p, 1, 7, counted(4), api.ErrQueuingWho)
	wantSend(t, p, 3, 7, counted(8), api.ErrQueuingLong)
	wantSend(t, p, 3, 7, counted(4), api.OK)
	wantSend(t, p, 3, 8, counted(4), api.ErrQueuingFull)
	wantTurn(t, p, 1, 0)
	wantTurn(t, p, 3, 8)
	for _, tick := range []uint64{5, 6, 7} {
		wantReceive(t, p, 4, counted(4), tick)
	}
}

// TestTellingChangesNothing: it is told again and again.
func TestTellingChangesNothing(t *testing.T) {
	for _, q := range both() {
		for _, s := range states(q.Flow) {
			p := port(t, q)
			wantLoad(t, p, s, api.OK)
			for range 3 {
				wantState(t, "told", p, s)
				wantStat(t, p, s.Stat)
			}
			wantIs(t, p, q, s)
		}
	}
}
