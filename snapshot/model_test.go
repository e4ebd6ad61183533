package snapshot_test

import (
	"bytes"
	"encoding/binary"
	"hash/crc32"
	"math"
	"math/rand"
	"testing"

	"cloister/api"
	"cloister/snapshot"
)

// places is where what may be wrong stands in a body.
type places struct {
	flags, pads, counts, longs []int
}

// sheet is a body that is written by the chapter's words, without layer 1.
type sheet struct {
	b []byte
	places
}

func (w *sheet) word(n uint32) { w.b = binary.LittleEndian.AppendUint32(w.b, n) }

func (w *sheet) long(n uint64) { w.b = binary.LittleEndian.AppendUint64(w.b, n) }

func (w *sheet) int(n int) {
	w.longs = append(w.longs, len(w.b))
	w.long(uint64(n))
}

func (w *sheet) flag(yes bool) {
	w.flags = append(w.flags, len(w.b))
	n := byte(0)
	if yes {
		n = 1
	}
	w.b = append(w.b, n)
}

func (w *sheet) count(n int) {
	w.counts = append(w.counts, len(w.b))
	w.word(uint32(n))
}

func (w *sheet) pad() {
	for len(w.b)%4 != 0 {
		w.pads = append(w.pads, len(w.b))
		w.b = append(w.b, 0)
	}
}

func (w *sheet) bytes(b []byte) {
	w.count(len(b))
	w.b = append(w.b, b...)
	w.pad()
}

func (w *sheet) message(m api.Message) {
	w.long(m.Tick)
	w.bytes(m.Data)
}

func (w *sheet) messages(l []api.Message) {
	w.count(len(l))
	for _, m := range l {
		w.message(m)
	}
}

func (w *sheet) state(s api.State) {
	w.long(s.Tick)
	w.flag(s.Waits)
	w.pad()
	w.bytes(s.Blob)
	w.count(len(s.Pages))
	for _, p := range s.Pages {
		w.word(p.Number)
		w.bytes(p.Bytes)
	}
	w.count(len(s.Cells))
	for _, c := range s.Cells {
		for _, n := range c.Regs.R {
			w.word(n)
		}
		w.word(c.Regs.PC)
		w.word(c.Regs.Vector)
		w.word(c.Regs.Back)
		w.flag(c.Regs.On)
		w.flag(c.Regs.Handling)
		w.flag(c.Halted)
		w.pad()
	}
	w.count(len(s.Lines))
	for _, l := range s.Lines {
		w.word(l.Set)
		w.word(l.Tag)
		w.flag(l.Dirty)
		w.pad()
	}
	w.count(len(s.Slots))
	for _, l := range s.Slots {
		w.word(uint32(l.Tag.Cell))
		w.word(l.Tag.Page)
		w.word(l.Mapping.Frame)
		w.b = append(w.b, byte(l.Mapping.Perm))
		w.pad()
	}
	w.rest(s)
}

// rest is what stands behind the slots.
func (w *sheet) rest(s api.State) {
	for _, cell := range s.Gic.Route {
		w.b = append(w.b, byte(cell))
	}
	w.word(s.Gic.Pending)
	w.word(s.Gic.Masked)
	w.count(len(s.Samples))
	for _, p := range s.Samples {
		w.flag(p.There)
		w.flag(p.Waits)
		w.pad()
		w.message(p.Last)
		w.message(p.Next)
	}
	w.count(len(s.Queues))
	for _, q := range s.Queues {
		for _, n := range []int{q.Stat.Accepted, q.Stat.Received, q.Stat.Queued, q.Stat.Staged, q.Stat.Lost} {
			w.int(n)
		}
		w.messages(q.Queued)
		w.messages(q.Staged)
	}
	w.count(len(s.Arrivals))
	for _, a := range s.Arrivals {
		w.long(a.Tick)
		w.b = append(w.b, byte(a.Line))
		w.pad()
	}
}

// written is a state that can be written, as bytes, and where what may be wrong
// stands in its body.
func written(s api.State) ([]byte, places) {
	var w sheet
	w.state(s)
	b := binary.LittleEndian.AppendUint32([]byte("CLSN\x01\x00\x00\x00"), uint32(len(w.b)))
	b = append(b, w.b...)
	return binary.LittleEndian.AppendUint32(b, crc32.ChecksumIEEE(b)), w.places
}

func bodyOf(s api.State) ([]byte, places) {
	b, p := written(s)
	return b[12 : len(b)-4], p
}

// ledger reads a body by the chapter's words; it panics where it is none.
type ledger struct {
	b  []byte
	at int
}

type none struct{}

func (r *ledger) take(n int) []byte {
	if n > len(r.b)-r.at {
		panic(none{})
	}
	r.at += n
	return r.b[r.at-n : r.at]
}

func (r *ledger) word() uint32 { return binary.LittleEndian.Uint32(r.take(4)) }

func (r *ledger) long() uint64 { return binary.LittleEndian.Uint64(r.take(8)) }

func (r *ledger) int() int {
	n := r.long()
	if n > math.MaxInt64 {
		panic(none{})
	}
	return int(n)
}

func (r *ledger) flag() bool {
	n := r.take(1)[0]
	if n > 1 {
		panic(none{})
	}
	return n == 1
}

func (r *ledger) pad() {
	for r.at%4 != 0 {
		if r.take(1)[0] != 0 {
			panic(none{})
		}
	}
}

func (r *ledger) bytes() []byte {
	b := bytes.Clone(r.take(int(r.word())))
	r.pad()
	return b
}

func (r *ledger) message() api.Message {
	tick := r.long()
	return api.Message{Tick: tick, Data: r.bytes()}
}

func (r *ledger) messages() (l []api.Message) {
	for range r.word() {
		l = append(l, r.message())
	}
	return l
}

func (r *ledger) cell() (c api.CellState) {
	for i := range c.Regs.R {
		c.Regs.R[i] = r.word()
	}
	c.Regs.PC, c.Regs.Vector, c.Regs.Back = r.word(), r.word(), r.word()
	c.Regs.On, c.Regs.Handling, c.Halted = r.flag(), r.flag(), r.flag()
	r.pad()
	return c
}

func (r *ledger) queue() (q api.QueueState) {
	for _, n := range []*int{&q.Stat.Accepted, &q.Stat.Received, &q.Stat.Queued, &q.Stat.Staged, &q.Stat.Lost} {
		*n = r.int()
	}
	q.Queued = r.messages()
	q.Staged = r.messages()
	return q
}

func (r *ledger) state() (s api.State) {
	s.Tick = r.long()
	s.Waits = r.flag()
	r.pad()
	s.Blob = r.bytes()
	for range r.word() {
		n := r.word()
		s.Pages = append(s.Pages, api.Page{Number: n, Bytes: r.bytes()})
	}
	for range r.word() {
		s.Cells = append(s.Cells, r.cell())
	}
	for range r.word() {
		s.Lines = append(s.Lines, api.Line{Set: r.word(), Tag: r.word(), Dirty: r.flag()})
		r.pad()
	}
	for range r.word() {
		s.Slots = append(s.Slots, api.Slot{Tag: api.Tag{Cell: int(r.word()), Page: r.word()}, Mapping: api.Mapping{Frame: r.word(), Perm: api.Perm(r.take(1)[0])}})
		r.pad()
	}
	for i, cell := range r.take(32) {
		s.Gic.Route[i] = int(cell)
	}
	s.Gic.Pending, s.Gic.Masked = r.word(), r.word()
	for range r.word() {
		p := api.SampleState{There: r.flag(), Waits: r.flag()}
		r.pad()
		p.Last = r.message()
		p.Next = r.message()
		s.Samples = append(s.Samples, p)
	}
	for range r.word() {
		s.Queues = append(s.Queues, r.queue())
	}
	for range r.word() {
		s.Arrivals = append(s.Arrivals, api.Arrival{Tick: r.long(), Line: int(r.take(1)[0])})
		r.pad()
	}
	return s
}

// readBody is the state of a body; not ok, if it is none.
func readBody(body []byte) (s api.State, ok bool) {
	defer func() {
		if caught := recover(); caught == any(none{}) {
			s, ok = api.State{}, false
		} else if caught != nil {
			panic(caught)
		}
	}()
	r := &ledger{b: body}
	s = r.state()
	if r.at != len(body) {
		panic(none{})
	}
	return s, true
}

// readAll is what Decode is to answer.
func readAll(b []byte) (api.State, api.Errno) {
	if len(b) > limit || len(b) < 16 || string(b[:8]) != "CLSN\x01\x00\x00\x00" || uint64(len(b)) != uint64(binary.LittleEndian.Uint32(b[8:]))+16 {
		return api.State{}, api.ErrSnapshotForm
	}
	end := len(b) - 4
	if crc32.ChecksumIEEE(b[:end]) != binary.LittleEndian.Uint32(b[end:]) {
		return api.State{}, api.ErrSnapshotSum
	}
	s, ok := readBody(b[12:end])
	if !ok {
		return api.State{}, api.ErrSnapshotForm
	}
	return s, api.OK
}

// asModel asks of Decode what the model answers, and gives its error.
func asModel(t *testing.T, what string, b []byte) api.Errno {
	t.Helper()
	s, e := readAll(b)
	if got, f := snapshot.Decode(b); !same(got, s) || f != e {
		t.Fatalf("%s: Decode of % x = %d, want %d, or another state", what, b, f, e)
	}
	return e
}

func pick[T any](random *rand.Rand, l ...T) T { return l[random.Intn(len(l))] }

// anyNumber is below 2 to so many bits; the least and the greatest more often.
func anyNumber(random *rand.Rand, bits int) uint64 {
	n := random.Uint64() >> (64 - bits)
	return pick(random, n, n, n>>random.Intn(bits), 0, 1, 1<<(bits-1), 1<<(bits-1)-1, 1<<bits-1)
}

func anyBytes(random *rand.Rand) []byte {
	b := make([]byte, random.Intn(10))
	random.Read(b)
	return b
}

func anyList[T any](random *rand.Rand, thing func() T) []T {
	var l []T
	for range random.Intn(4) {
		l = append(l, thing())
	}
	return l
}

// anyState can be written.
func anyState(random *rand.Rand) api.State {
	word := func() uint32 { return uint32(anyNumber(random, 32)) }
	flag := func() bool { return random.Intn(2) == 0 }
	count := func() int { return int(anyNumber(random, 63)) }
	message := func() api.Message { return api.Message{Tick: anyNumber(random, 64), Data: anyBytes(random)} }
	s := api.State{Blob: anyBytes(random), Tick: anyNumber(random, 64), Waits: flag()}
	s.Pages = anyList(random, func() api.Page { return api.Page{Number: word(), Bytes: anyBytes(random)} })
	s.Cells = anyList(random, func() api.CellState {
		c := api.CellState{Halted: flag(), Regs: api.Regs{PC: word(), Vector: word(), Back: word(), On: flag(), Handling: flag()}}
		for i := range c.Regs.R {
			c.Regs.R[i] = word()
		}
		return c
	})
	s.Lines = anyList(random, func() api.Line { return api.Line{Set: word(), Tag: word(), Dirty: flag()} })
	s.Slots = anyList(random, func() api.Slot {
		return api.Slot{Tag: api.Tag{Cell: int(word()), Page: word()}, Mapping: api.Mapping{Frame: word(), Perm: api.Perm(anyNumber(random, 8))}}
	})
	for i := range s.Gic.Route {
		s.Gic.Route[i] = int(anyNumber(random, 8))
	}
	s.Gic.Pending, s.Gic.Masked = word(), word()
	s.Samples = anyList(random, func() api.SampleState {
		return api.SampleState{There: flag(), Waits: flag(), Last: message(), Next: message()}
	})
	s.Queues = anyList(random, func() api.QueueState {
		stat := api.QueueStat{Accepted: count(), Received: count(), Queued: count(), Staged: count(), Lost: count()}
		return api.QueueState{Stat: stat, Queued: anyList(random, message), Staged: anyList(random, message)}
	})
	s.Arrivals = anyList(random, func() api.Arrival {
		return api.Arrival{Tick: anyNumber(random, 64), Line: int(anyNumber(random, 8))}
	})
	return s
}

// TestModel: what was written out by hand is what the model writes and reads.
func TestModel(t *testing.T) {
	body, p := bodyOf(small())
	if !bytes.Equal(body, smallBody()) {
		t.Fatalf("the model writes % x", body)
	}
	if s, ok := readBody(body); !ok || !same(s, small()) {
		t.Fatal("the model reads something else")
	}
	if len(p.flags) != 13 || len(p.counts) != 27 || len(p.longs) != 15 || len(p.pads) < 40 {
		t.Fatalf("%d flags, %d counts, %d ints, %d bytes of padding", len(p.flags), len(p.counts), len(p.longs), len(p.pads))
	}
}
