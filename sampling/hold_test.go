package sampling_test

import (
	"math/rand"
	"slices"
	"testing"

	"cloister/api"
	"cloister/sampling"
)

// model is a port in plain words: all that was done to it, from its beginning
// on, or from what was loaded on.
type model struct {
	declared api.Sample
	done     []deed
}

// deed is a message that was written, or a Turn of the writer.
type deed struct {
	turn    bool
	message api.Message
}

func (m *model) write(cell int, tick uint64, data []byte) api.Errno {
	switch {
	case cell != m.declared.Writer:
		return api.ErrSamplingWho
	case len(data) > m.declared.Size:
		return api.ErrSamplingLong
	case len(data)%4 != 0:
		return api.ErrSamplingArg
	}
	m.done = append(m.done, deed{message: api.Message{Data: slices.Clone(data), Tick: tick}})
	return api.OK
}

// lastTurn is the place of the writer's last Turn; -1: there was none.
func (m *model) lastTurn() int {
	for i, d := range slices.Backward(m.done) {
		if d.turn {
			return i
		}
	}
	return -1
}

// lastOf is the last message that was written among these.
func lastOf(done []deed) (api.Message, bool) {
	for _, d := range slices.Backward(done) {
		if !d.turn {
			return d.message, true
		}
	}
	return api.Message{}, false
}

func (m *model) state() api.SampleState {
	var s api.SampleState
	at := m.lastTurn()
	if at >= 0 {
		s.Last, s.There = lastOf(m.done[:at])
	}
	s.Next, s.Waits = lastOf(m.done[at+1:])
	return s
}

func (m *model) turn(cell int) int {
	if cell != m.declared.Writer {
		return 0
	}
	moved := m.state().Next
	m.done = append(m.done, deed{turn: true})
	return len(moved.Data)
}

// load forgets what was done, and does what gives that state.
func (m *model) load(s api.SampleState) {
	m.done = nil
	if s.There {
		m.done = append(m.done, deed{message: s.Last}, deed{turn: true})
	}
	if s.Waits {
		m.done = append(m.done, deed{message: s.Next})
	}
}

// anyPort is one that may be, and its model.
func anyPort(t *testing.T, random *rand.Rand) (*sampling.Port, *model) {
	t.Helper()
	all := random.Perm(cells)
	for i := range all {
		all[i]++
	}
	s := declare(all[0], 4+4*random.Intn(64), all[1:2+random.Intn(cells-1)]...)
	if random.Intn(2) == 0 {
		s.Size = 4 + 4*random.Intn(3)
	}
	return port(t, s.Writer, s.Size, s.Readers...), &model{declared: s}
}

func anyData(random *rand.Rand, size int) []byte {
	n := random.Intn(size/4+1) * 4
	if random.Intn(5) == 0 {
		n = random.Intn(size + 12)
	}
	b := make([]byte, n)
	random.Read(b)
	return b
}

func anyMessage(random *rand.Rand, size int) api.Message {
	data := make([]byte, random.Intn(size/4+1)*4)
	random.Read(data)
	return api.Message{Data: data, Tick: random.Uint64()}
}

func anyState(random *rand.Rand, size int) api.SampleState {
	s := api.SampleState{There: random.Intn(2) == 0, Waits: random.Intn(2) == 0}
	if s.There {
		s.Last = anyMessage(random, size)
	}
	if s.Waits {
		s.Next = anyMessage(random, size)
	}
	return s
}

// anyCell is mostly the writer.
func anyCell(random *rand.Rand, writer int) int {
	if random.Intn(4) > 0 {
		return writer
	}
	return random.Intn(cells+3) - 1
}

// change does one thing to both, and holds the answers against each other.
func (m *model) change(t *testing.T, random *rand.Rand, p *sampling.Port) {
	t.Helper()
	cell, tick, size := anyCell(random, m.declared.Writer), random.Uint64(), m.declared.Size
	switch random.Intn(12) {
	case 0:
		s := anyState(random, size)
		wantLoad(t, p, s, api.OK)
		m.load(s)
	case 1:
		s := anyState(random, size)
		s.There, s.Last = true, message(size+4, tick)
		wantLoad(t, p, s, api.ErrSamplingArg)
	case 2, 3, 4:
		wantTurn(t, p, cell, m.turn(cell))
	default:
		data := anyData(random, size)
		wantWrite(t, p, cell, tick, data, m.write(cell, tick, data))
	}
}

// hold: a reader reads the last message that was written ahead of the writer's
// last Turn.
func (m *model) hold(t *testing.T, p *sampling.Port) {
	t.Helper()
	s := m.state()
	wantState(t, "in any order", p, s)
	for cell := -1; cell <= cells+2; cell++ {
		switch {
		case !slices.Contains(m.declared.Readers, cell):
			wantNoRead(t, p, cell, api.ErrSamplingWho)
		case s.There:
			wantRead(t, p, cell, s.Last.Data, s.Last.Tick)
		default:
			wantNoRead(t, p, cell, api.OK)
		}
	}
	wantState(t, "read", p, s)
}

// TestAnyOrder: whatever is done in whichever order, a port is as its model
// says.
func TestAnyOrder(t *testing.T) {
	for seed := range int64(100) {
		random := rand.New(rand.NewSource(seed))
		p, m := anyPort(t, random)
		for range 150 {
			m.change(t, random, p)
			m.hold(t, p)
		}
	}
}

// TestLoadedIsTheOther: a port that is loaded with another one's state is that
// one from then on, whatever was done to it ahead of that.
func TestLoadedIsTheOther(t *testing.T) {
	for seed := range int64(200) {
		random := rand.New(rand.NewSource(seed))
		p, m := anyPort(t, random)
		s := m.declared
		q, other := port(t, s.Writer, s.Size, s.Readers...), &model{declared: s}
		for range random.Intn(30) {
			m.change(t, random, p)
		}
		for range random.Intn(30) {
			other.change(t, random, q)
		}
		wantLoad(t, q, p.State(), api.OK)
		n := &model{s, slices.Clone(m.done)}
		again := random.Int63()
		one, two := rand.New(rand.NewSource(again)), rand.New(rand.NewSource(again))
		for range 50 {
			m.change(t, one, p)
			n.change(t, two, q)
			wantState(t, "loaded", q, p.State())
		}
		n.hold(t, q)
	}
}

// TestWriteAnswersAlone: what Write answers hangs on the declaration and its
// arguments alone: a new port answers what one answers that has been in use.
func TestWriteAnswersAlone(t *testing.T) {
	for seed := range int64(100) {
		random := rand.New(rand.NewSource(seed))
		p, m := anyPort(t, random)
		s := m.declared
		for range 100 {
			m.change(t, random, p)
			p.Read(s.Readers[0])
			cell, tick, data := anyCell(random, s.Writer), random.Uint64(), anyData(random, s.Size)
			fresh := port(t, s.Writer, s.Size, s.Readers...)
			want := fresh.Write(cell, tick, data)
			if got := p.Write(cell, tick, data); got != want {
				t.Fatalf("seed %d: Write(%d, %d, %d bytes) = %d, and of a new one %d", seed, cell, tick, len(data), got, want)
			}
			m.write(cell, tick, data)
		}
		m.hold(t, p)
	}
}

// TestReadersDoNotShow: what readers and other cells do changes nothing that
// the writer is told, nor what is read.
func TestReadersDoNotShow(t *testing.T) {
	for seed := range int64(100) {
		random := rand.New(rand.NewSource(seed))
		p, m := anyPort(t, random)
		s := m.declared
		alone := port(t, s.Writer, s.Size, s.Readers...)
		for range 100 {
			for range random.Intn(4) {
				cell := s.Readers[random.Intn(len(s.Readers))]
				p.Read(cell)
				p.Turn(cell)
				p.Write(cell, 1, counted(4))
				p.State()
			}
			if random.Intn(3) == 0 {
				wantTurn(t, p, s.Writer, alone.Turn(s.Writer))
			} else {
				tick, data := random.Uint64(), anyData(random, s.Size)
				wantWrite(t, p, s.Writer, tick, data, alone.Write(s.Writer, tick, data))
			}
			wantState(t, "among others", p, alone.State())
		}
	}
}

// TestVeryMany messages, and very many turns.
func TestVeryMany(t *testing.T) {
	p := port(t, 1, 4, 2)
	for i := range uint64(100000) {
		wantWrite(t, p, 1, i, counted(4), api.OK)
		if i%3 == 0 {
			wantTurn(t, p, 1, 4)
		}
		wantRead(t, p, 2, counted(4), i/3*3)
	}
}
