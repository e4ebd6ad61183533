package queuing_test

import (
	"math/rand"
	"slices"
	"testing"

	"cloister/api"
	"cloister/queuing"
)

// fate is what has become of a message that was accepted.
type fate int

const (
	isStaged fate = iota
	isQueued
	isReceived
	isLost
)

type letter struct {
	message api.Message
	fate    fate
}

// model is a port in plain words: all messages that were ever accepted, in that
// order, and what has become of each; and numbers that were loaded.
type model struct {
	declared       api.Queue
	received, lost int
	letters        []letter
}

func (m *model) copy() *model {
	return &model{m.declared, m.received, m.lost, slices.Clone(m.letters)}
}

// with is the messages with that fate.
func (m *model) with(f fate) []api.Message {
	var l []api.Message
	for _, x := range m.letters {
		if x.fate == f {
			l = append(l, x.message)
		}
	}
	return l
}

func (m *model) state() api.QueueState {
	return stateOf(m.received+len(m.with(isReceived)), m.lost+len(m.with(isLost)), m.with(isQueued), m.with(isStaged))
}

func (m *model) send(cell int, tick uint64, data []byte) api.Errno {
	queued, staged := len(m.with(isQueued)), len(m.with(isStaged))
	switch {
	case cell != m.declared.Writer:
		return api.ErrQueuingWho
	case len(data) > m.declared.Size:
		return api.ErrQueuingLong
	case len(data)%4 != 0:
		return api.ErrQueuingArg
	case m.declared.Flow && queued+staged == m.declared.Depth:
		return api.ErrQueuingFull
	case !m.declared.Flow && staged == m.declared.Quota:
		return api.ErrQueuingFull
	case m.state().Stat.Accepted == limit:
		return api.ErrQueuingFull
	}
	m.letters = append(m.letters, letter{message: api.Message{Data: slices.Clone(data), Tick: tick}})
	return api.OK
}

func (m *model) turn(cell int) int {
	if cell != m.declared.Writer {
		return 0
	}
	moved, queued := 0, len(m.with(isQueued))
	for i, x := range m.letters {
		switch {
		case x.fate != isStaged:
		case queued < m.declared.Depth:
			m.letters[i].fate = isQueued
			queued++
			moved += len(x.message.Data)
		default:
			m.letters[i].fate = isLost
		}
	}
	return moved
}

// receive tells the first one that is queued.
func (m *model) receive() (api.Message, bool) {
	for i, x := range m.letters {
		if x.fate == isQueued {
			m.letters[i].fate = isReceived
			return x.message, true
		}
	}
	return api.Message{}, false
}

func (m *model) load(s api.QueueState) {
	m.received, m.lost, m.letters = s.Stat.Received, s.Stat.Lost, nil
	for _, x := range s.Queued {
		m.letters = append(m.letters, letter{x, isQueued})
	}
	for _, x := range s.Staged {
		m.letters = append(m.letters, letter{x, isStaged})
	}
}

// anyPort is one that may be, mostly a small one, and its model.
func anyPort(t *testing.T, random *rand.Rand) (*queuing.Port, *model) {
	t.Helper()
	two := random.Perm(cells)
	q := api.Queue{Writer: 1 + two[0], Reader: 1 + two[1], Size: 4 + 4*random.Intn(3), Depth: 1 + random.Intn(4), Quota: 1 + random.Intn(3), Flow: random.Intn(2) == 0}
	if random.Intn(4) == 0 {
		q.Size, q.Depth, q.Quota = 4+4*random.Intn(64), 1+random.Intn(maxDepth), 1+random.Intn(maxQuota)
	}
	return port(t, q), &model{declared: q}
}

func anyData(random *rand.Rand, size int) []byte {
	n := random.Intn(size/4+1) * 4
	if random.Intn(5) == 0 {
		n = random.Intn(size + 12)
	}
	b := make([]byte, n)
	random.Read(b)
	return b
}

func anyMessages(random *rand.Rand, n, size int) []api.Message {
	var l []api.Message
	for range n {
		data := make([]byte, random.Intn(size/4+1)*4)
		random.Read(data)
		l = append(l, api.Message{Data: data, Tick: random.Uint64()})
	}
	return l
}

// anyState is one of that port, sometimes near the limit.
func anyState(random *rand.Rand, q api.Queue) api.QueueState {
	queued := random.Intn(q.Depth + 1)
	staged, lost := random.Intn(q.Quota+1), random.Intn(5)
	if q.Flow {
		staged, lost = random.Intn(q.Depth-queued+1), 0
	}
	received := random.Intn(10)
	if random.Intn(4) == 0 {
		received = limit - lost - queued - staged - random.Intn(6)
	}
	return stateOf(received, lost, anyMessages(random, queued, q.Size), anyMessages(random, staged, q.Size))
}

// anyCell is mostly that one.
func anyCell(random *rand.Rand, mostly int) int {
	if random.Intn(5) > 0 {
		return mostly
	}
	return random.Intn(cells+3) - 1
}

func (m *model) wantReceived(t *testing.T, p *queuing.Port, cell int) {
	t.Helper()
	if cell != m.declared.Reader {
		wantNone(t, p, cell, api.ErrQueuingWho)
		return
	}
	if x, there := m.receive(); there {
		wantReceive(t, p, cell, x.Data, x.Tick)
	} else {
		wantNone(t, p, cell, api.OK)
	}
}

// change does one thing to both, and holds the answers against each other.
func (m *model) change(t *testing.T, random *rand.Rand, p *queuing.Port) {
	t.Helper()
	q := m.declared
	switch random.Intn(40) {
	case 0:
		s := anyState(random, q)
		wantLoad(t, p, s, api.OK)
		m.load(s)
	case 1:
		s := anyState(random, q)
		s.Stat.Accepted++
		wantLoad(t, p, s, api.ErrQueuingArg)
	default:
		m.use(t, random, p)
	}
}

// use is change without Load.
func (m *model) use(t *testing.T, random *rand.Rand, p *queuing.Port) {
	t.Helper()
	q := m.declared
	switch random.Intn(8) {
	case 0, 1:
		cell := anyCell(random, q.Writer)
		wantTurn(t, p, cell, m.turn(cell))
	case 2, 3:
		m.wantReceived(t, p, anyCell(random, q.Reader))
	default:
		cell, tick, data := anyCell(random, q.Writer), random.Uint64(), anyData(random, q.Size)
		wantSend(t, p, cell, tick, data, m.send(cell, tick, data))
	}
}

// TestAnyOrder: whatever is done in whichever order, a port is as its model
// says.
func TestAnyOrder(t *testing.T) {
	for seed := range int64(300) {
		random := rand.New(rand.NewSource(seed))
		p, m := anyPort(t, random)
		for range 150 {
			m.change(t, random, p)
			wantState(t, "in any order", p, m.state())
			wantStat(t, p, m.state().Stat)
		}
	}
}

// TestNothingIsLostUnsaid: always accepted = received + queued + staged + lost,
// as they are counted by the answers; what is received is what was accepted, in
// that order, without what was lost; of a flow-controlled port a beginning.
func TestNothingIsLostUnsaid(t *testing.T) {
	for seed := range int64(200) {
		random := rand.New(rand.NewSource(seed))
		p, m := anyPort(t, random)
		q := m.declared
		var accepted, received []uint64
		for i := range uint64(300) {
			switch random.Intn(6) {
			case 0:
				p.Turn(q.Writer)
			case 1, 2:
				if _, tick, there, _ := p.Receive(q.Reader); there {
					received = append(received, tick)
				}
			default:
				if p.Send(q.Writer, i, counted(4)) == api.OK {
					accepted = append(accepted, i)
				}
			}
			s := p.Stat()
			if s.Accepted != len(accepted) || s.Received != len(received) || s.Accepted != s.Received+s.Queued+s.Staged+s.Lost {
				t.Fatalf("seed %d: %+v, %d were accepted, %d received", seed, s, len(accepted), len(received))
			}
		}
		p.Turn(q.Writer)
		for range p.Stat().Queued {
			_, tick, _, _ := p.Receive(q.Reader)
			received = append(received, tick)
		}
		s := p.Stat()
		if s != (api.QueueStat{Accepted: len(accepted), Received: len(received), Lost: len(accepted) - len(received)}) {
			t.Errorf("seed %d: in the end %+v", seed, s)
		}
		if q.Flow && !slices.Equal(accepted, received) {
			t.Errorf("seed %d: accepted %v, received %v", seed, accepted, received)
		}
		for _, tick := range received {
			at := slices.Index(accepted, tick)
			if at < 0 {
				t.Fatalf("seed %d: %d is not behind those that were received ahead of it", seed, tick)
			}
			accepted = accepted[at+1:]
		}
	}
}

// TestSendAnswersAlone: of a one-way port a new one that is sent what was sent
// since the last Turn answers what one answers that has been in use.
func TestSendAnswersAlone(t *testing.T) {
	for seed := range int64(200) {
		random := rand.New(rand.NewSource(seed))
		_, m := anyPort(t, random)
		m.declared.Flow = false
		q := m.declared
		p, fresh := port(t, q), port(t, q)
		for range 200 {
			for range random.Intn(4) {
				p.Receive(q.Reader)
				p.Turn(q.Reader)
				p.Send(q.Reader, 1, counted(4))
				p.Stat()
				p.State()
			}
			if random.Intn(5) == 0 {
				p.Turn(q.Writer)
				fresh = port(t, q)
				continue
			}
			cell, tick, data := anyCell(random, q.Writer), random.Uint64(), anyData(random, q.Size)
			want := fresh.Send(cell, tick, data)
			if got := p.Send(cell, tick, data); got != want {
				t.Fatalf("seed %d: Send(%d, %d, %d bytes) = %d, and of a new one %d", seed, cell, tick, len(data), got, want)
			}
		}
	}
}

// TestLoadedIsTheOther: a port that is loaded with another one's state is that
// one from then on, whatever was done to it ahead of that.
func TestLoadedIsTheOther(t *testing.T) {
	for seed := range int64(300) {
		random := rand.New(rand.NewSource(seed))
		p, m := anyPort(t, random)
		q, other := port(t, m.declared), &model{declared: m.declared}
		for range random.Intn(60) {
			m.change(t, random, p)
		}
		for range random.Intn(60) {
			other.change(t, random, q)
		}
		wantLoad(t, q, p.State(), api.OK)
		n := m.copy()
		again := random.Int63()
		one, two := rand.New(rand.NewSource(again)), rand.New(rand.NewSource(again))
		for range 60 {
			m.use(t, one, p)
			n.use(t, two, q)
			wantState(t, "loaded", q, p.State())
		}
	}
}

// TestStatesAreStates: whatever was done, what is told can be loaded.
func TestStatesAreStates(t *testing.T) {
	for seed := range int64(200) {
		random := rand.New(rand.NewSource(seed))
		p, m := anyPort(t, random)
		for range 100 {
			m.change(t, random, p)
			wantLoad(t, port(t, m.declared), p.State(), api.OK)
			wantLoad(t, p, p.State(), api.OK)
			wantState(t, "loaded with its own", p, m.state())
		}
	}
}

// TestVeryMany messages, and very many turns.
func TestVeryMany(t *testing.T) {
	for _, q := range []api.Queue{flow(4, 5), oneWay(4, 5, 5)} {
		p := port(t, q)
		const all = 100000
		for i := range uint64(all) {
			wantSends(t, p, i)
			if i%5 == 4 {
				wantTurn(t, p, 1, 20)
				wantReceives(t, p, i-4, i-3, i-2, i-1, i)
			}
		}
		wantStat(t, p, api.QueueStat{Accepted: all, Received: all})
	}
}
