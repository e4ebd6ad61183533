package hyper_test

import (
	"testing"

	"cloister/api"
	"cloister/boot"
	"cloister/config"
	"cloister/hyper"
)

const (
	page = api.PageSize
	rx   = api.Read | api.Exec
	rw   = api.Read | api.Write
)

// Numbers of hypercalls, as the chapter has them.
const (
	write   = 1
	read    = 2
	send    = 3
	receive = 4
	mask    = 5
	waiting = 6
	whoAmI  = 7
	say     = 8
	left    = 9
	wait    = 10
	halt    = 11
)

// Codes, likewise.
const (
	who     = 4294967295
	long    = 4294967294
	full    = 4294967293
	nothing = 4294967292
	align   = 4294967291
	number  = 4294967290
)

// three is a configuration of three cells with all kinds of ports. Of each
// cell the last page and the first one follow upon one another, modulo 2 to
// the 32. Switch is 160, 500 and 150.
func three() api.Config {
	cell := func(name string, at uint32, last api.Perm, lines ...int) api.Cell {
		return api.Cell{Name: name, Entry: 0x1000, Lines: lines, Ranges: []api.Range{
			{Virtual: 0x1000, Physical: at * page, Pages: 1, Perm: rx},
			{Virtual: 0x8000, Physical: (at + 1) * page, Pages: 2, Perm: rw},
			{Virtual: 0xfffff000, Physical: (at + 3) * page, Pages: 1, Perm: last},
			{Virtual: 0, Physical: (at + 4) * page, Pages: 1, Perm: rw},
			{Virtual: 0x6000, Physical: (at + 5) * page, Pages: 1, Perm: api.Exec},
		}}
	}
	return api.Config{
		Pages: 64, OwnBase: 0, OwnPages: 32,
		Shape: api.Shape{Sets: 4, Ways: 2, Line: 16}, Slots: 4, Major: 30000,
		Cells: []api.Cell{cell("one", 32, rw, 3, 4, 31), cell("two", 40, api.Read, 5, 0), cell("three", 50, rw)},
		Windows: []api.Window{
			{Cell: 1, Start: 100, Length: 6000}, {Cell: 2, Start: 6100, Length: 6000},
			{Cell: 1, Start: 15000, Length: 5000}, {Cell: 3, Start: 21000, Length: 9000},
		},
		Samples: []api.Sample{
			{Writer: 1, Size: 64, Readers: []int{2, 3}},
			{Writer: 3, Size: 4, Readers: []int{1}},
			{Writer: 2, Size: 256, Readers: []int{3, 1}},
		},
		Queues: []api.Queue{
			{Writer: 1, Reader: 2, Size: 8, Depth: 2, Quota: 3},
			{Writer: 2, Reader: 1, Size: 256, Depth: 2, Quota: 1, Flow: true},
			{Writer: 3, Reader: 2, Size: 4, Depth: 1, Quota: 16},
		},
	}
}

func booted(t testing.TB, g api.Config, l ...api.Load) *boot.Machine {
	t.Helper()
	b, e := config.Encode(g)
	if e != api.OK {
		t.Fatalf("config.Encode = %d", e)
	}
	m, e := boot.Boot(b, l...)
	if e != api.OK {
		t.Fatalf("boot.Boot = %d", e)
	}
	return m
}

// numbered is n bytes that all differ from their neighbours: first, first and
// 1, and so on.
func numbered(first byte, n int) []byte {
	b := make([]byte, n)
	for i := range b {
		b[i] = first + byte(i)
	}
	return b
}

func load(cell int, at uint32, data []byte) api.Load {
	return api.Load{Cell: cell, At: at, Data: data}
}

// turn is the end of a window of a cell, as far as ports go.
func turn(m *boot.Machine, cell int) {
	for _, p := range m.Samples {
		p.Turn(cell)
	}
	for _, p := range m.Queues {
		p.Turn(cell)
	}
}

// regs are registers that all differ, but for those by which is asked.
func regs(l ...uint32) api.Regs {
	r := api.Regs{PC: 0x1004, Vector: 0x1100, Back: 0x1200, On: true}
	for i := range r.R {
		r.R[i] = 0x01010101 * uint32(100+i)
	}
	copy(r.R[1:], l)
	return r
}

// wantCall wants an answer, and R1, R2, R3 as they are told, as far as they
// are; those that are not, and all other registers, are to be as they were.
func wantCall(t testing.TB, m *boot.Machine, cell int, tick uint64, n uint32, r api.Regs, want hyper.Answer, l ...uint32) {
	t.Helper()
	after := r
	copy(after.R[1:], l)
	got := r
	if a := hyper.Call(m, cell, tick, n, &got); a != want {
		t.Errorf("cell %d calls %d with %v: %+v, want %+v", cell, n, r.R[1:4], a, want)
	}
	if got != after {
		t.Errorf("cell %d calls %d with %v: the registers are %+v, want %+v", cell, n, r.R[1:4], got, after)
	}
}

// wantValue wants a call that copies nothing, and has nothing to say but R1.
func wantValue(t testing.TB, m *boot.Machine, cell int, tick uint64, n uint32, r api.Regs, want uint32) {
	t.Helper()
	wantCall(t, m, cell, tick, n, r, hyper.Answer{Cycles: 10, Value: want}, want)
}

// TestExamples: those of the chapter.
func TestExamples(t *testing.T) {
	m := booted(t, three())
	wantCall(t, m, 2, 0, 7, regs(), hyper.Answer{Cycles: 10, Value: 2}, 2)
	wantCall(t, m, 1, 0, 3, regs(9, 0x8000, 8), hyper.Answer{Cycles: 10, Value: 4294967295}, 4294967295)
	_, first, _ := m.MMU.Load(1, 0x8000, 4)
	if first != 36 {
		t.Fatalf("a first load costs %d", first)
	}
	wantCall(t, m, 1, 0, 3, regs(0, 0x8000, 8), hyper.Answer{Cycles: 10 + 1 + 1}, 0)
	wantCall(t, m, 1, 0, 3, regs(0, 0x4000, 8), hyper.Answer{Cycles: 10 + 1 + 12, Fault: api.FaultUnmapped, Addr: 0x4000})
	wantCall(t, m, 2, 0, 4, regs(0, 0x8000, 77), hyper.Answer{Cycles: 10, Value: 4294967292}, 4294967292)
}

func TestErrorNumber(t *testing.T) {
	if api.ErrHyperArg != 200 {
		t.Errorf("ErrHyperArg has the number %d", api.ErrHyperArg)
	}
}

// TestNothing: without a machine, without registers, for no cell.
func TestNothing(t *testing.T) {
	m := booted(t, three())
	before := stateOf(m)
	for n := range uint32(13) {
		r := regs(0, 0x8000, 4)
		if a := hyper.Call(nil, 1, 0, n, &r); a != (hyper.Answer{}) || r != regs(0, 0x8000, 4) {
			t.Errorf("%d without a machine: %+v, %+v", n, a, r)
		}
		if a := hyper.Call(m, 1, 0, n, nil); a != (hyper.Answer{}) {
			t.Errorf("%d without registers: %+v", n, a)
		}
		if a := hyper.Call(nil, 1, 0, n, nil); a != (hyper.Answer{}) {
			t.Errorf("%d without both: %+v", n, a)
		}
		for _, cell := range []int{0, 4, 5, 8, 9, -1, 1 << 32, 1<<32 + 1, -1 << 63, 1<<63 - 1} {
			wantCall(t, m, cell, 200, n, regs(0, 0x8000, 4), hyper.Answer{})
		}
	}
	wantState(t, m, before)
}

// TestPlain: calls that ask for nothing of the machine.
func TestPlain(t *testing.T) {
	m := booted(t, three())
	before := stateOf(m)
	for cell := 1; cell <= 3; cell++ {
		for _, v := range []uint32{0, 1, 9, 1 << 31, 1<<32 - 1} {
			r := regs(v, v+1, v+2)
			wantValue(t, m, cell, uint64(v), whoAmI, r, uint32(cell))
			wantCall(t, m, cell, uint64(v), say, r, hyper.Answer{Cycles: 10, Value: v, Said: true}, v)
			wantCall(t, m, cell, uint64(v), wait, r, hyper.Answer{Cycles: 10, Waits: true}, 0)
			wantCall(t, m, cell, uint64(v), halt, r, hyper.Answer{Cycles: 10, Halts: true}, 0)
		}
	}
	wantState(t, m, before)
}

// TestNoSuchNumber: of any other number.
func TestNoSuchNumber(t *testing.T) {
	m := booted(t, three())
	before := stateOf(m)
	for _, n := range []uint32{0, 12, 13, 100, 255, 256, 257, 263, 1 << 16, 1<<16 + 7, 1 << 31, 1<<31 + 7, 1<<32 - 1} {
		wantValue(t, m, 1, 200, n, regs(0, 0x8000, 4), number)
		wantValue(t, m, 3, 1<<64-1, n, regs(), number)
	}
	wantState(t, m, before)
}

// TestRegistersStay: whatever else they have.
func TestRegistersStay(t *testing.T) {
	m := booted(t, three())
	for n := range uint32(13) {
		r := api.Regs{PC: 1<<32 - 1, Vector: 3, Back: 5, Handling: true}
		for i := range r.R {
			r.R[i] = 1<<32 - 1 - uint32(i)
		}
		got := r
		hyper.Call(m, 2, 300, n, &got)
		copy(r.R[1:4], got.R[1:4])
		if got != r {
			t.Errorf("%d: %+v, want %+v", n, got, r)
		}
	}
}
