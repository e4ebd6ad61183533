package sampling_test

import (
	"bytes"
	"math"
	"testing"

	"cloister/api"
	"cloister/sampling"
)

const (
	cells   = 8
	maxSize = 256
)

// noCells are numbers that no cell has.
func noCells() []int {
	return []int{0, -1, -2, -8, cells + 1, cells + 2, 16, 256, 257, 1 << 31, 1 << 32, 1<<32 + 1, 1<<32 + 2, math.MaxInt, math.MinInt, math.MinInt + 1}
}

// ticks are some of 64 bits: any may be.
func ticks() []uint64 {
	return []uint64{0, 1, 10, 1<<32 - 1, 1 << 32, 1<<63 - 1, 1 << 63, math.MaxUint64}
}

// counted is n bytes, none of them 0.
func counted(n int) []byte {
	b := make([]byte, n)
	for i := range b {
		b[i] = byte(1 + i%255)
	}
	return b
}

func declare(writer, size int, readers ...int) api.Sample {
	return api.Sample{Writer: writer, Size: size, Readers: readers}
}

// port is one that may be: the writer's number, Size, the readers' numbers.
func port(t *testing.T, writer, size int, readers ...int) *sampling.Port {
	t.Helper()
	p, e := sampling.New(declare(writer, size, readers...))
	if p == nil || e != api.OK {
		t.Fatalf("New(%d, %d, %v) = %v, %d", writer, size, readers, p, e)
	}
	return p
}

func wantNew(t *testing.T, s api.Sample, want api.Errno) {
	t.Helper()
	if p, e := sampling.New(s); e != want || (p == nil) != (want != api.OK) {
		t.Errorf("New(%+v) = %v, %d, want %d", s, p, e, want)
	}
}

func wantWrite(t *testing.T, p *sampling.Port, cell int, tick uint64, data []byte, want api.Errno) {
	t.Helper()
	if e := p.Write(cell, tick, data); e != want {
		t.Errorf("Write(%d, %d, %d bytes) = %d, want %d", cell, tick, len(data), e, want)
	}
}

func wantTurn(t *testing.T, p *sampling.Port, cell, want int) {
	t.Helper()
	if n := p.Turn(cell); n != want {
		t.Errorf("Turn(%d) = %d, want %d", cell, n, want)
	}
}

func wantRead(t *testing.T, p *sampling.Port, cell int, data []byte, tick uint64) {
	t.Helper()
	b, n, there, e := p.Read(cell)
	if !bytes.Equal(b, data) || n != tick || !there || e != api.OK {
		t.Errorf("Read(%d) = %v, %d, %v, %d, want %v, %d", cell, b, n, there, e, data, tick)
	}
}

// wantNoRead: with api.OK there is no message; else it is refused.
func wantNoRead(t *testing.T, p *sampling.Port, cell int, want api.Errno) {
	t.Helper()
	b, n, there, e := p.Read(cell)
	if len(b) != 0 || n != 0 || there || e != want {
		t.Errorf("Read(%d) = %v, %d, %v, %d, want nothing, %d", cell, b, n, there, e, want)
	}
}

func TestNewWriter(t *testing.T) {
	for writer := 1; writer <= cells; writer++ {
		for reader := 1; reader <= cells; reader++ {
			want := api.OK
			if reader == writer {
				want = api.ErrSamplingArg
			}
			wantNew(t, declare(writer, 4, reader), want)
		}
	}
	for _, writer := range noCells() {
		wantNew(t, declare(writer, 4, 2), api.ErrSamplingArg)
		wantNew(t, declare(writer, 4, writer), api.ErrSamplingArg)
	}
}

func TestNewReaders(t *testing.T) {
	wantNew(t, declare(1, 4, 2, 3, 4, 5, 6, 7, 8), api.OK)
	wantNew(t, declare(5, 4, 8, 1, 6, 3, 7, 2, 4), api.OK)
	wantNew(t, api.Sample{Writer: 1, Size: 4}, api.ErrSamplingArg)
	wantNew(t, api.Sample{Writer: 1, Size: 4, Readers: []int{}}, api.ErrSamplingArg)
	wantNew(t, api.Sample{Writer: 1, Size: 4, Readers: []int{2, 3}[:0]}, api.ErrSamplingArg)
	for _, readers := range [][]int{{2, 2}, {2, 3, 2}, {3, 2, 2}, {8, 8}, {1, 2}, {2, 1}, {2, 1, 3}, {2, 3, 4, 5, 6, 7, 8, 2}, {2, 3, 4, 5, 6, 7, 8, 1}} {
		wantNew(t, declare(1, 4, readers...), api.ErrSamplingArg)
	}
	for _, cell := range noCells() {
		wantNew(t, declare(1, 4, cell), api.ErrSamplingArg)
		wantNew(t, declare(1, 4, 2, cell), api.ErrSamplingArg)
		wantNew(t, declare(1, 4, cell, 2), api.ErrSamplingArg)
	}
	wantNew(t, declare(1, 4, make([]int, 1<<20)...), api.ErrSamplingArg)
}

func TestNewSize(t *testing.T) {
	for size := -300; size <= 600; size++ {
		want := api.ErrSamplingArg
		if size >= 4 && size <= maxSize && size%4 == 0 {
			want = api.OK
		}
		wantNew(t, declare(3, size, 2, 8), want)
	}
	for _, size := range []int{1 << 31, 1 << 32, 1<<32 + 4, 1<<32 + 256, math.MaxInt, math.MaxInt - 3, math.MinInt, math.MinInt + 4} {
		wantNew(t, declare(3, size, 2, 8), api.ErrSamplingArg)
	}
}

// TestNewIsEmpty: neither a last message, nor one that waits.
func TestNewIsEmpty(t *testing.T) {
	for size := 4; size <= maxSize; size += 4 {
		p := port(t, 1, size, 2, 8)
		wantState(t, "new", p, api.SampleState{})
		wantNoRead(t, p, 2, api.OK)
		wantNoRead(t, p, 8, api.OK)
		wantTurn(t, p, 1, 0)
		wantNoRead(t, p, 2, api.OK)
		wantState(t, "new, turned", p, api.SampleState{})
	}
}

// TestExamples are the chapter's.
func TestExamples(t *testing.T) {
	p := port(t, 1, 8, 2)
	wantNoRead(t, p, 2, api.OK)
	wantWrite(t, p, 1, 10, []byte{1, 2, 3, 4}, api.OK)
	wantNoRead(t, p, 2, api.OK)
	wantTurn(t, p, 2, 0)
	wantNoRead(t, p, 2, api.OK)
	wantTurn(t, p, 1, 4)
	wantRead(t, p, 2, []byte{1, 2, 3, 4}, 10)
	wantRead(t, p, 2, []byte{1, 2, 3, 4}, 10)

	wantWrite(t, p, 1, 20, []byte{5, 6, 7, 8}, api.OK)
	wantWrite(t, p, 1, 30, []byte{9, 10, 11, 12, 13, 14, 15, 16}, api.OK)
	wantTurn(t, p, 1, 8)
	wantRead(t, p, 2, []byte{9, 10, 11, 12, 13, 14, 15, 16}, 30)
	wantTurn(t, p, 1, 0)
	wantRead(t, p, 2, []byte{9, 10, 11, 12, 13, 14, 15, 16}, 30)

	for n := range 20 {
		wantWrite(t, p, 2, 40, counted(n), api.ErrSamplingWho)
	}
	wantWrite(t, p, 1, 40, counted(12), api.ErrSamplingLong)
	wantWrite(t, p, 1, 40, counted(3), api.ErrSamplingArg)
}

// TestWriteLengths: all lengths at all Sizes; too long comes ahead of no
// multiple of 4.
func TestWriteLengths(t *testing.T) {
	for size := 4; size <= maxSize; size += 4 {
		p := port(t, 7, size, 1)
		for n := 0; n <= maxSize+8; n++ {
			want := api.OK
			switch {
			case n > size:
				want = api.ErrSamplingLong
			case n%4 != 0:
				want = api.ErrSamplingArg
			}
			before := p.State()
			data := counted(n)
			wantWrite(t, p, 7, uint64(n), data, want)
			if want != api.OK {
				wantState(t, "refused", p, before)
				continue
			}
			before.Waits, before.Next = true, api.Message{Data: data, Tick: uint64(n)}
			wantState(t, "written", p, before)
			wantTurn(t, p, 7, n)
			wantRead(t, p, 1, data, uint64(n))
		}
		wantWrite(t, p, 7, 1, counted(1<<20), api.ErrSamplingLong)
	}
}

// TestWriteWho: nobody but the writer, whatever the bytes.
func TestWriteWho(t *testing.T) {
	for writer := 1; writer <= cells; writer++ {
		p := port(t, writer, 8, 1+writer%cells)
		wantWrite(t, p, writer, 3, counted(4), api.OK)
		wantTurn(t, p, writer, 4)
		wantWrite(t, p, writer, 4, counted(8), api.OK)
		before := p.State()
		for _, cell := range append(noCells(), 1, 2, 3, 4, 5, 6, 7, 8) {
			if cell == writer {
				continue
			}
			for _, n := range []int{0, 3, 4, 8, 9, 12, 300} {
				wantWrite(t, p, cell, 9, counted(n), api.ErrSamplingWho)
			}
		}
		wantState(t, "refused", p, before)
	}
}

func TestWriteTicks(t *testing.T) {
	p := port(t, 1, 4, 2)
	for _, tick := range ticks() { // they need not rise
		for _, other := range ticks() {
			wantWrite(t, p, 1, other, counted(4), api.OK)
			wantTurn(t, p, 1, 4)
			wantWrite(t, p, 1, tick, counted(4), api.OK)
			wantRead(t, p, 2, counted(4), other)
			wantTurn(t, p, 1, 4)
			wantRead(t, p, 2, counted(4), tick)
		}
	}
}

// TestWriteAgain: a message stands in the place of one that waits, also a
// shorter one.
func TestWriteAgain(t *testing.T) {
	p := port(t, 1, 16, 2)
	wantWrite(t, p, 1, 1, counted(16), api.OK)
	wantTurn(t, p, 1, 16)
	for _, first := range []int{0, 4, 16} {
		for _, second := range []int{0, 4, 8, 16} {
			last := p.State()
			wantWrite(t, p, 1, 7, bytes.Repeat([]byte{77}, first), api.OK)
			wantWrite(t, p, 1, 5, counted(second), api.OK)
			wantRead(t, p, 2, last.Last.Data, last.Last.Tick)
			last.Waits, last.Next = true, api.Message{Data: counted(second), Tick: 5}
			wantState(t, "written again", p, last)
			wantTurn(t, p, 1, second)
			wantRead(t, p, 2, counted(second), 5)
			wantTurn(t, p, 1, 0)
			wantRead(t, p, 2, counted(second), 5)
		}
	}
}

// TestEmptyMessage: one without bytes is a message all the same.
func TestEmptyMessage(t *testing.T) {
	for _, nothing := range [][]byte{nil, {}, counted(4)[:0]} {
		for _, tick := range ticks() {
			p := port(t, 1, 4, 2)
			wantWrite(t, p, 1, tick, nothing, api.OK)
			wantState(t, "waits", p, api.SampleState{Waits: true, Next: api.Message{Tick: tick}})
			wantNoRead(t, p, 2, api.OK)
			wantTurn(t, p, 1, 0)
			wantRead(t, p, 2, nil, tick)
			wantState(t, "there", p, api.SampleState{There: true, Last: api.Message{Tick: tick}})
			wantWrite(t, p, 1, 1, counted(4), api.OK)
			wantTurn(t, p, 1, 4)
			wantWrite(t, p, 1, tick, nothing, api.OK)
			wantTurn(t, p, 1, 0)
			wantRead(t, p, 2, nil, tick)
		}
	}
}

// TestReadWho: the readers alone, in any order of them; not the writer either,
// with a message and without one.
func TestReadWho(t *testing.T) {
	for set := 1; set < 1<<cells; set++ {
		for writer := 1; writer <= cells; writer++ {
			if set>>(writer-1)%2 == 1 {
				continue
			}
			var readers []int
			for cell := cells; cell >= 1; cell-- {
				if set>>(cell-1)%2 == 1 {
					readers = append(readers, cell)
				}
			}
			p := port(t, writer, 4, readers...)
			for cell := 1; cell <= cells; cell++ {
				if set>>(cell-1)%2 == 1 {
					wantNoRead(t, p, cell, api.OK)
				} else {
					wantNoRead(t, p, cell, api.ErrSamplingWho)
				}
			}
			wantWrite(t, p, writer, 6, counted(4), api.OK)
			wantTurn(t, p, writer, 4)
			for cell := 1; cell <= cells; cell++ {
				if set>>(cell-1)%2 == 1 {
					wantRead(t, p, cell, counted(4), 6)
				} else {
					wantNoRead(t, p, cell, api.ErrSamplingWho)
				}
			}
		}
	}
}

func TestReadNoCell(t *testing.T) {
	p := port(t, 1, 4, 2, 3, 4, 5, 6, 7, 8)
	wantWrite(t, p, 1, 6, counted(4), api.OK)
	wantTurn(t, p, 1, 4)
	wantWrite(t, p, 1, 7, counted(0), api.OK)
	before := p.State()
	for _, cell := range append(noCells(), 1) {
		wantNoRead(t, p, cell, api.ErrSamplingWho)
	}
	wantState(t, "refused", p, before)
}

// TestReadChangesNothing: as often as readers like.
func TestReadChangesNothing(t *testing.T) {
	p := port(t, 4, 8, 2, 6)
	wantWrite(t, p, 4, 6, counted(8), api.OK)
	wantTurn(t, p, 4, 8)
	wantWrite(t, p, 4, 7, counted(4), api.OK)
	before := p.State()
	for range 20 {
		wantRead(t, p, 2, counted(8), 6)
		wantRead(t, p, 6, counted(8), 6)
		wantState(t, "read", p, before)
	}
	wantTurn(t, p, 4, 4)
	wantRead(t, p, 2, counted(4), 7)
}

// TestTurnOfOthers: another cell's window's end moves nothing.
func TestTurnOfOthers(t *testing.T) {
	for writer := 1; writer <= cells; writer++ {
		reader := 1 + writer%cells
		p := port(t, writer, 8, reader)
		for n := 4; n <= 8; n += 4 {
			wantWrite(t, p, writer, uint64(n), counted(n), api.OK)
			before := p.State()
			for _, cell := range append(noCells(), 1, 2, 3, 4, 5, 6, 7, 8) {
				if cell != writer {
					wantTurn(t, p, cell, 0)
				}
			}
			wantState(t, "turned by others", p, before)
			wantTurn(t, p, writer, n)
			wantRead(t, p, reader, counted(n), uint64(n))
		}
	}
}

// TestTurn: what waits is the last one from now on, and nothing waits.
func TestTurn(t *testing.T) {
	p := port(t, 1, maxSize, 2)
	for n := 0; n <= maxSize; n += 4 {
		wantWrite(t, p, 1, uint64(n), counted(n), api.OK)
		wantTurn(t, p, 1, n)
		want := api.SampleState{There: true, Last: api.Message{Data: counted(n), Tick: uint64(n)}}
		wantState(t, "turned", p, want)
		for range 3 {
			wantTurn(t, p, 1, 0)
			wantState(t, "turned again", p, want)
		}
	}
}
