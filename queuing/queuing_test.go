package queuing_test

import (
	"bytes"
	"math"
	"testing"

	"cloister/api"
	"cloister/queuing"
)

const (
	cells    = 8
	maxSize  = 256
	maxDepth = 32
	maxQuota = 16
	limit    = 1152921504606846976
)

// noCells are numbers that no cell has.
func noCells() []int {
	return []int{0, -1, -2, -8, cells + 1, cells + 2, 16, 256, 257, 1 << 31, 1 << 32, 1<<32 + 1, 1<<32 + 2, math.MaxInt, math.MinInt, math.MinInt + 1}
}

// ticks are some of 64 bits: any may be.
func ticks() []uint64 {
	return []uint64{0, 1, 10, 1<<32 - 1, 1 << 32, 1<<63 - 1, 1 << 63, math.MaxUint64}
}

// counted is n bytes, none of them 0.
func counted(n int) []byte {
	b := make([]byte, n)
	for i := range b {
		b[i] = byte(1 + i%255)
	}
	return b
}

// flow and oneWay are declarations of ports from cell 1 to cell 2.
func flow(size, depth int) api.Queue {
	return api.Queue{Writer: 1, Reader: 2, Size: size, Depth: depth, Quota: 1, Flow: true}
}

func oneWay(size, depth, quota int) api.Queue {
	return api.Queue{Writer: 1, Reader: 2, Size: size, Depth: depth, Quota: quota}
}

func port(t *testing.T, q api.Queue) *queuing.Port {
	t.Helper()
	p, e := queuing.New(q)
	if p == nil || e != api.OK {
		t.Fatalf("New(%+v) = %v, %d", q, p, e)
	}
	return p
}

func wantNew(t *testing.T, q api.Queue, want api.Errno) {
	t.Helper()
	for _, q.Flow = range []bool{false, true} {
		if p, e := queuing.New(q); e != want || (p == nil) != (want != api.OK) {
			t.Errorf("New(%+v) = %v, %d, want %d", q, p, e, want)
		}
	}
}

func wantSend(t *testing.T, p *queuing.Port, cell int, tick uint64, data []byte, want api.Errno) {
	t.Helper()
	if e := p.Send(cell, tick, data); e != want {
		t.Errorf("Send(%d, %d, %d bytes) = %d, want %d", cell, tick, len(data), e, want)
	}
}

// wantSends sends messages of 4 bytes with these ticks by cell 1, all of which
// are taken.
func wantSends(t *testing.T, p *queuing.Port, ticks ...uint64) {
	t.Helper()
	for _, tick := range ticks {
		wantSend(t, p, 1, tick, counted(4), api.OK)
	}
}

func wantTurn(t *testing.T, p *queuing.Port, cell, want int) {
	t.Helper()
	if n := p.Turn(cell); n != want {
		t.Errorf("Turn(%d) = %d, want %d", cell, n, want)
	}
}

func wantReceive(t *testing.T, p *queuing.Port, cell int, data []byte, tick uint64) {
	t.Helper()
	b, n, there, e := p.Receive(cell)
	if !bytes.Equal(b, data) || n != tick || !there || e != api.OK {
		t.Errorf("Receive(%d) = %v, %d, %v, %d, want %v, %d", cell, b, n, there, e, data, tick)
	}
}

// wantReceives takes what wantSends has sent, by cell 2.
func wantReceives(t *testing.T, p *queuing.Port, ticks ...uint64) {
	t.Helper()
	for _, tick := range ticks {
		wantReceive(t, p, 2, counted(4), tick)
	}
}

// wantNone: with api.OK there is no message; else it is refused.
func wantNone(t *testing.T, p *queuing.Port, cell int, want api.Errno) {
	t.Helper()
	b, n, there, e := p.Receive(cell)
	if len(b) != 0 || n != 0 || there || e != want {
		t.Errorf("Receive(%d) = %v, %d, %v, %d, want nothing, %d", cell, b, n, there, e, want)
	}
}

func wantStat(t *testing.T, p *queuing.Port, want api.QueueStat) {
	t.Helper()
	if s := p.Stat(); s != want {
		t.Errorf("Stat() = %+v, want %+v", s, want)
	}
}

func TestErrors(t *testing.T) {
	for i, e := range []api.Errno{api.ErrQueuingArg, api.ErrQueuingWho, api.ErrQueuingLong, api.ErrQueuingFull} {
		if int(e) != 170+i {
			t.Errorf("error %d is %d", i, e)
		}
	}
}

func TestNewCells(t *testing.T) {
	q := oneWay(4, 1, 1)
	for q.Writer = 1; q.Writer <= cells; q.Writer++ {
		for q.Reader = 1; q.Reader <= cells; q.Reader++ {
			want := api.OK
			if q.Reader == q.Writer {
				want = api.ErrQueuingArg
			}
			wantNew(t, q, want)
		}
	}
	for _, cell := range noCells() {
		q.Writer, q.Reader = cell, 2
		wantNew(t, q, api.ErrQueuingArg)
		q.Writer, q.Reader = 1, cell
		wantNew(t, q, api.ErrQueuingArg)
		q.Writer, q.Reader = cell, cell
		wantNew(t, q, api.ErrQueuingArg)
		q.Writer, q.Reader = cell, cell+1
		wantNew(t, q, api.ErrQueuingArg)
	}
	wantNew(t, api.Queue{}, api.ErrQueuingArg)
}

// far are numbers far off each bound.
func far() []int {
	return []int{1 << 31, 1 << 32, 1<<32 + 1, 1<<32 + 4, 1<<32 + 16, 1<<32 + 256, math.MaxInt, math.MaxInt - 3, math.MinInt, math.MinInt + 4}
}

func TestNewSize(t *testing.T) {
	for size := -300; size <= 600; size++ {
		want := api.ErrQueuingArg
		if size >= 4 && size <= maxSize && size%4 == 0 {
			want = api.OK
		}
		wantNew(t, oneWay(size, 3, 2), want)
	}
	for _, size := range far() {
		wantNew(t, oneWay(size, 3, 2), api.ErrQueuingArg)
	}
}

// TestNewDepthAndQuota: Quota is asked of a flow-controlled port, too.
func TestNewDepthAndQuota(t *testing.T) {
	for depth := -5; depth <= 70; depth++ {
		for quota := -5; quota <= 40; quota++ {
			want := api.ErrQueuingArg
			if depth >= 1 && depth <= maxDepth && quota >= 1 && quota <= maxQuota {
				want = api.OK
			}
			wantNew(t, oneWay(8, depth, quota), want)
		}
	}
	for _, n := range far() {
		wantNew(t, oneWay(8, n, 1), api.ErrQueuingArg)
		wantNew(t, oneWay(8, 1, n), api.ErrQueuingArg)
	}
}

func TestNewIsEmpty(t *testing.T) {
	for _, q := range []api.Queue{flow(4, 1), flow(256, 32), oneWay(4, 1, 1), oneWay(256, 32, 16)} {
		p := port(t, q)
		for range 2 {
			wantState(t, "new", p, api.QueueState{})
			wantStat(t, p, api.QueueStat{})
			wantNone(t, p, 2, api.OK)
			wantTurn(t, p, 1, 0)
		}
	}
}

// TestExamples are the chapter's.
func TestExamples(t *testing.T) {
	p := port(t, flow(4, 2))
	wantSends(t, p, 1, 2)
	wantSend(t, p, 1, 3, counted(4), api.ErrQueuingFull)
	wantTurn(t, p, 1, 8)
	wantStat(t, p, api.QueueStat{Accepted: 2, Queued: 2})
	wantReceives(t, p, 1)
	wantSends(t, p, 4)
	wantSend(t, p, 1, 5, counted(4), api.ErrQueuingFull)

	p = port(t, oneWay(4, 1, 2))
	wantSends(t, p, 1, 2)
	wantSend(t, p, 1, 3, counted(4), api.ErrQueuingFull)
	wantTurn(t, p, 1, 4)
	wantStat(t, p, api.QueueStat{Accepted: 2, Queued: 1, Lost: 1})
	wantSends(t, p, 4)
	wantTurn(t, p, 1, 0)
	wantStat(t, p, api.QueueStat{Accepted: 3, Queued: 1, Lost: 2})
	wantReceives(t, p, 1)
	wantNone(t, p, 2, api.OK)

	wantSends(t, p, 5)
	before := p.State()
	wantTurn(t, p, 2, 0)
	wantState(t, "the reader's turn", p, before)
	wantNone(t, p, 2, api.OK)
}

// TestSendLengths: all lengths at all Sizes; too long comes ahead of no
// multiple of 4.
func TestSendLengths(t *testing.T) {
	for size := 4; size <= maxSize; size += 4 {
		for _, q := range []api.Queue{flow(size, 1), oneWay(size, 1, 1)} {
			p := port(t, q)
			for n := 0; n <= maxSize+8; n++ {
				want := api.OK
				switch {
				case n > size:
					want = api.ErrQueuingLong
				case n%4 != 0:
					want = api.ErrQueuingArg
				}
				before := p.State()
				wantSend(t, p, 1, uint64(n), counted(n), want)
				if want != api.OK {
					wantState(t, "refused", p, before)
					continue
				}
				wantTurn(t, p, 1, n)
				wantReceive(t, p, 2, counted(n), uint64(n))
			}
			wantSend(t, p, 1, 1, counted(1<<20), api.ErrQueuingLong)
		}
	}
}

// TestSendWho: nobody but the writer, whatever the bytes, full or not.
func TestSendWho(t *testing.T) {
	for writer := 1; writer <= cells; writer++ {
		for _, q := range []api.Queue{flow(8, 2), oneWay(8, 2, 1)} {
			q.Writer, q.Reader = writer, 1+writer%cells
			p := port(t, q)
			for range 2 {
				wantSend(t, p, writer, 4, counted(8), api.OK)
				before := p.State()
				for _, cell := range append(noCells(), 1, 2, 3, 4, 5, 6, 7, 8) {
					for _, n := range []int{0, 3, 4, 8, 9, 12, 300} {
						if cell != writer {
							wantSend(t, p, cell, 9, counted(n), api.ErrQueuingWho)
						}
					}
				}
				wantState(t, "refused", p, before)
				wantTurn(t, p, writer, 8)
			}
		}
	}
}

// TestFullComesLast: of a port that is full what else is wrong is told first.
func TestFullComesLast(t *testing.T) {
	full := stateOf(limit, 0, nil, nil)
	for _, q := range []api.Queue{flow(8, 1), oneWay(8, 1, 1)} {
		p, at := port(t, q), port(t, q)
		wantSends(t, p, 1)
		wantLoad(t, at, full, api.OK)
		for _, p := range []*queuing.Port{p, at} {
			before := p.State()
			for _, n := range []int{0, 4, 8} {
				wantSend(t, p, 1, 2, counted(n), api.ErrQueuingFull)
			}
			wantSend(t, p, 2, 2, counted(4), api.ErrQueuingWho)
			wantSend(t, p, 1, 2, counted(12), api.ErrQueuingLong)
			wantSend(t, p, 1, 2, counted(9), api.ErrQueuingLong)
			wantSend(t, p, 1, 2, counted(7), api.ErrQueuingArg)
			wantState(t, "refused", p, before)
		}
	}
}

// TestFlowIsFull: as many as Depth, however many of them are staged.
func TestFlowIsFull(t *testing.T) {
	for depth := 1; depth <= maxDepth; depth++ {
		for quota := 1; quota <= maxQuota; quota += 5 {
			q := flow(4, depth)
			q.Quota = quota
			for queued := 0; queued <= depth; queued++ {
				p := port(t, q)
				for i := range depth {
					if i == queued {
						wantTurn(t, p, 1, 4*queued)
					}
					wantSends(t, p, uint64(i))
				}
				wantSend(t, p, 1, 99, counted(4), api.ErrQueuingFull)
				wantTurn(t, p, 1, 4*(depth-queued%depth))
				wantSend(t, p, 1, 99, counted(4), api.ErrQueuingFull)
				wantStat(t, p, api.QueueStat{Accepted: depth, Queued: depth})
				for i := range depth {
					wantReceives(t, p, uint64(i))
					wantSends(t, p, uint64(depth+i))
					wantSend(t, p, 1, 99, counted(4), api.ErrQueuingFull)
				}
				wantNone(t, p, 2, api.OK)
				wantStat(t, p, api.QueueStat{Accepted: 2 * depth, Received: depth, Staged: depth})
			}
		}
	}
}

// TestOneWayIsFull: as many as Quota in a window, whatever is queued.
func TestOneWayIsFull(t *testing.T) {
	for depth := 1; depth <= maxDepth; depth++ {
		for quota := 1; quota <= maxQuota; quota++ {
			p := port(t, oneWay(4, depth, quota))
			stat := api.QueueStat{}
			for range 40 {
				for i := range quota {
					wantSends(t, p, uint64(i))
				}
				wantSend(t, p, 1, 99, counted(4), api.ErrQueuingFull)
				stat.Accepted += quota
				stat.Staged = quota
				wantStat(t, p, stat)
				joined := min(quota, depth-stat.Queued)
				wantTurn(t, p, 1, 4*joined)
				stat.Staged = 0
				stat.Queued += joined
				stat.Lost += quota - joined
				wantStat(t, p, stat)
			}
		}
	}
}

// TestOneWayStaysFull: what the reader takes in between makes no room for the
// writer.
func TestOneWayStaysFull(t *testing.T) {
	p := port(t, oneWay(4, 4, 2))
	wantSends(t, p, 1, 2)
	wantTurn(t, p, 1, 8)
	wantSends(t, p, 3, 4)
	wantReceives(t, p, 1, 2)
	wantSend(t, p, 1, 5, counted(4), api.ErrQueuingFull)
	wantTurn(t, p, 2, 0)
	wantSend(t, p, 1, 5, counted(4), api.ErrQueuingFull)
	wantTurn(t, p, 1, 8)
	wantReceives(t, p, 3, 4)
}

// TestLimit: no more than 2 to the 60 are ever accepted, whatever becomes of
// them.
func TestLimit(t *testing.T) {
	for _, q := range []api.Queue{flow(4, 8), oneWay(4, 8, 8)} {
		p := port(t, q)
		wantLoad(t, p, stateOf(limit-2, 0, nil, nil), api.OK)
		wantSends(t, p, 1, 2)
		wantSend(t, p, 1, 3, counted(4), api.ErrQueuingFull)
		wantStat(t, p, api.QueueStat{Accepted: limit, Received: limit - 2, Staged: 2})
		wantTurn(t, p, 1, 8)
		wantSend(t, p, 1, 3, nil, api.ErrQueuingFull)
		wantReceives(t, p, 1, 2)
		wantNone(t, p, 2, api.OK)
		wantTurn(t, p, 1, 0)
		wantSend(t, p, 1, 3, counted(4), api.ErrQueuingFull)
		wantStat(t, p, api.QueueStat{Accepted: limit, Received: limit})
		wantLoad(t, p, p.State(), api.OK)
		wantLoad(t, p, api.QueueState{}, api.OK)
		wantSends(t, p, 1)
	}
}

func TestTicks(t *testing.T) {
	for _, q := range []api.Queue{flow(4, 4), oneWay(4, 4, 2)} {
		p := port(t, q)
		for _, tick := range ticks() { // they need not rise
			for _, other := range ticks() {
				wantSends(t, p, tick, other)
				wantTurn(t, p, 1, 8)
				wantReceives(t, p, tick, other)
			}
		}
	}
}

// TestEmptyMessages: one without bytes is a message all the same, and has its
// place.
func TestEmptyMessages(t *testing.T) {
	for _, nothing := range [][]byte{nil, {}, counted(4)[:0]} {
		for _, q := range []api.Queue{flow(4, 2), oneWay(4, 2, 2)} {
			p := port(t, q)
			wantSend(t, p, 1, 0, nothing, api.OK)
			wantSend(t, p, 1, 7, nothing, api.OK)
			wantSend(t, p, 1, 8, nothing, api.ErrQueuingFull)
			wantState(t, "staged", p, stateOf(0, 0, nil, list(message(0, 0), message(0, 7))))
			wantTurn(t, p, 1, 0)
			wantState(t, "queued", p, stateOf(0, 0, list(message(0, 0), message(0, 7)), nil))
			wantReceive(t, p, 2, nil, 0)
			wantReceive(t, p, 2, nil, 7)
			wantNone(t, p, 2, api.OK)
		}
	}
}

// TestReceiveWho: the reader alone; not the writer either, with a message and
// without one.
func TestReceiveWho(t *testing.T) {
	for reader := 1; reader <= cells; reader++ {
		q := flow(4, 2)
		q.Writer, q.Reader = 1+reader%cells, reader
		p := port(t, q)
		for range 2 {
			before := p.State()
			for _, cell := range append(noCells(), 1, 2, 3, 4, 5, 6, 7, 8) {
				if cell != reader {
					wantNone(t, p, cell, api.ErrQueuingWho)
				}
			}
			wantState(t, "refused", p, before)
			wantNone(t, p, reader, api.OK)
			wantSend(t, p, q.Writer, 6, counted(4), api.OK)
			wantTurn(t, p, q.Writer, 4)
			wantReceive(t, p, reader, counted(4), 6)
		}
	}
}

// TestReceiveOrder: each once, in the order in which they were sent, over many
// windows; what is staged is not seen.
func TestReceiveOrder(t *testing.T) {
	for _, q := range []api.Queue{flow(16, 5), oneWay(16, 5, 3)} {
		p := port(t, q)
		sent, received := uint64(0), uint64(0)
		for range 200 {
			for range 2 {
				wantSend(t, p, 1, sent, counted(int(sent%5)*4), api.OK)
				sent++
			}
			for range sent - 2 - received {
				wantReceive(t, p, 2, counted(int(received%5)*4), received)
				received++
			}
			wantNone(t, p, 2, api.OK)
			wantTurn(t, p, 1, int((sent-1)%5+(sent-2)%5)*4)
		}
		wantStat(t, p, api.QueueStat{Accepted: 400, Received: 398, Queued: 2})
	}
}

// TestTurnOfOthers: another cell's window's end moves nothing.
func TestTurnOfOthers(t *testing.T) {
	for writer := 1; writer <= cells; writer++ {
		for _, q := range []api.Queue{flow(8, 1), oneWay(8, 1, 2)} {
			q.Writer, q.Reader = writer, 1+writer%cells
			p := port(t, q)
			wantSend(t, p, writer, 5, counted(8), api.OK)
			before := p.State()
			for _, cell := range append(noCells(), 1, 2, 3, 4, 5, 6, 7, 8) {
				if cell != writer {
					wantTurn(t, p, cell, 0)
				}
			}
			wantState(t, "turned by others", p, before)
			wantTurn(t, p, writer, 8)
			wantReceive(t, p, q.Reader, counted(8), 5)
		}
	}
}

// TestTurnLoses: what is lost is the first one for which there is no room, and
// all behind it, also those without bytes; the answer is of those that joined.
func TestTurnLoses(t *testing.T) {
	for queued := 0; queued <= 6; queued++ {
		for staged := 0; staged <= 8; staged++ {
			p := port(t, oneWay(64, 6, 8))
			var was, more []api.Message
			for i := range queued {
				was = append(was, message(4*i, uint64(i)))
			}
			for i := range staged {
				more = append(more, message(4*(staged-1-i), uint64(100+i)))
			}
			wantLoad(t, p, stateOf(3, 5, was, more), api.OK)
			room := min(6-queued, staged)
			bytes := 0
			for _, m := range more[:room] {
				bytes += len(m.Data)
			}
			wantTurn(t, p, 1, bytes)
			wantState(t, "turned", p, stateOf(3, 5+staged-room, list(append(was, more[:room]...)...), nil))
			wantTurn(t, p, 1, 0)
			wantState(t, "turned again", p, stateOf(3, 5+staged-room, list(append(was, more[:room]...)...), nil))
		}
	}
}

// TestTurnOfMuch: as many bytes as can join at once.
func TestTurnOfMuch(t *testing.T) {
	p, q := port(t, flow(maxSize, maxDepth)), port(t, oneWay(maxSize, maxDepth, maxQuota))
	for range maxDepth {
		wantSend(t, p, 1, 1, counted(maxSize), api.OK)
	}
	for range maxQuota {
		wantSend(t, q, 1, 1, counted(maxSize), api.OK)
	}
	wantTurn(t, p, 1, maxSize*maxDepth)
	wantTurn(t, q, 1, maxSize*maxQuota)
}

// TestStatTellsWhereMessagesAre at each step of their way.
func TestStatTellsWhereMessagesAre(t *testing.T) {
	p := port(t, oneWay(4, 2, 3))
	wantSends(t, p, 1)
	wantStat(t, p, api.QueueStat{Accepted: 1, Staged: 1})
	wantSends(t, p, 2, 3)
	wantStat(t, p, api.QueueStat{Accepted: 3, Staged: 3})
	wantTurn(t, p, 1, 8)
	wantStat(t, p, api.QueueStat{Accepted: 3, Queued: 2, Lost: 1})
	wantSends(t, p, 4)
	wantStat(t, p, api.QueueStat{Accepted: 4, Queued: 2, Staged: 1, Lost: 1})
	wantReceives(t, p, 1)
	wantStat(t, p, api.QueueStat{Accepted: 4, Received: 1, Queued: 1, Staged: 1, Lost: 1})
	wantTurn(t, p, 1, 4)
	wantReceives(t, p, 2, 4)
	wantStat(t, p, api.QueueStat{Accepted: 4, Received: 3, Lost: 1})
}
