package core_test

import (
	"math"
	"testing"

	"cloister/api"
	"cloister/core"
)

func TestReset(t *testing.T) {
	for _, entry := range []uint32{0, 1, 4096, 1 << 31, math.MaxUint32} {
		if r := core.Reset(entry); r != (api.Regs{PC: entry}) {
			t.Errorf("Reset(%d): %v", entry, r)
		}
	}
}

// TestNothing: without registers, or without a bus, nothing is done.
func TestNothing(t *testing.T) {
	b := &bus{answers: answers{there: true, line: 3}}
	if got := core.Step(nil, b); got != (api.Result{}) || len(b.calls) != 0 {
		t.Errorf("without registers: %v, %v", got, b.calls)
	}
	r := someRegs()
	r.R[0], r.On = 77, true
	was := r
	if got := core.Step(&r, nil); got != (api.Result{}) || r != was {
		t.Errorf("without a bus: %v, %v", got, r)
	}
	if got := core.Step(nil, nil); got != (api.Result{}) {
		t.Errorf("without both: %v", got)
	}
}

func TestExamples(t *testing.T) {
	r := api.Regs{PC: 100, Vector: 400}
	r.R[2] = 7
	got := step(r, answers{word: wordOf(t, api.Instr{Op: api.OpAddi, D: 1, A: 2, Imm: -8}), fetching: 36})
	if got.regs.R[1] != 4294967295 || got.regs.PC != 104 || got.result != (api.Result{Kind: api.Stepped, Cycles: 37}) {
		t.Errorf("1: %v", got)
	}
	got = step(r, answers{word: wordOf(t, api.Instr{Op: api.OpLb, D: 1, A: 2}), value: 0x80})
	if got.regs.R[1] != 0xffffff80 || got.result.Value != 0xffffff80 {
		t.Errorf("2: %v", got)
	}
	got = step(r, answers{word: wordOf(t, api.Instr{Op: api.OpDivu, D: 1, A: 2})})
	if got.regs.R[1] != 4294967295 {
		t.Errorf("3: %v", got)
	}
	got = step(r, answers{word: wordOf(t, api.Instr{Op: api.OpAdd, A: 2, B: 2})})
	if got.regs.R[0] != 0 {
		t.Errorf("3: %v", got)
	}
	got = step(r, answers{word: wordOf(t, api.Instr{Op: api.OpBeq})})
	if got.regs != r || got.result.Kind != api.Stepped {
		t.Errorf("4: %v", got)
	}
	r.On = true
	got = step(r, answers{line: 5, there: true})
	if got.result.Kind != api.Taken || got.regs.PC != 400 || got.regs.R[14] != 5 {
		t.Errorf("5: %v", got)
	}
	got = step(got.regs, answers{word: wordOf(t, api.Instr{Op: api.OpEret}), line: 5, there: true})
	if got.result.Kind != api.Stepped || got.regs.PC != 100 {
		t.Errorf("5: %v", got)
	}
}

// TestZero: register 0 reads as 0 whatever it has, and is 0 behind each step,
// whatever comes of it.
func TestZero(t *testing.T) {
	for name, x := range map[string]answers{
		"add":             {word: wordOf(t, api.Instr{Op: api.OpAdd, D: 0, A: 2, B: 3})},
		"lui":             {word: wordOf(t, api.Instr{Op: api.OpLui, D: 0, Imm: 9})},
		"jal":             {word: wordOf(t, api.Instr{Op: api.OpJal, D: 0, Imm: 9})},
		"jalr":            {word: wordOf(t, api.Instr{Op: api.OpJalr, D: 0, A: 0, Imm: 9})},
		"clock":           {word: wordOf(t, api.Instr{Op: api.OpClock, D: 0}), clock: 99},
		"lw":              {word: wordOf(t, api.Instr{Op: api.OpLw, D: 0, A: 0, Imm: 4}), value: 55},
		"sw":              {word: wordOf(t, api.Instr{Op: api.OpSw, A: 0, B: 0, Imm: 4})},
		"vec":             {word: wordOf(t, api.Instr{Op: api.OpVec, A: 0})},
		"halt":            {word: wordOf(t, api.Instr{Op: api.OpHalt})},
		"no instruction":  {},
		"a fetch refused": {fetchFault: api.FaultUnmapped},
		"a load refused":  {word: wordOf(t, api.Instr{Op: api.OpLw, D: 0, A: 0, Imm: 4}), moveFault: api.FaultDenied},
		"a line":          {line: 6, there: true},
	} {
		r := someRegs()
		r.R[0], r.On = math.MaxUint32, true
		got := step(r, x)
		if got.regs.R[0] != 0 {
			t.Errorf("%s: register 0 is %d", name, got.regs.R[0])
		}
		same(t, name, got, model(r, x))
	}
}

// TestZeroIsTold: what is loaded to register 0, or read of the clock, is told
// all the same.
func TestZeroIsTold(t *testing.T) {
	got := step(someRegs(), answers{word: wordOf(t, api.Instr{Op: api.OpLb, Imm: 4}), value: 0x1ff})
	if got.result != (api.Result{Kind: api.Stepped, Cycles: 1, Addr: 4, Loaded: true, Value: math.MaxUint32}) {
		t.Errorf("lb: %v", got.result)
	}
	got = step(someRegs(), answers{word: wordOf(t, api.Instr{Op: api.OpClock}), clock: 1 << 40})
	if got.result != (api.Result{Kind: api.Stepped, Cycles: 1, Read: true, Clock: 1 << 40}) {
		t.Errorf("clock: %v", got.result)
	}
}

// TestScribbles: a step hangs on the registers as they were at its beginning,
// whatever the bus does with them while it is under way.
func TestScribbles(t *testing.T) {
	x := answers{word: wordOf(t, api.Instr{Op: api.OpLw, D: 1, A: 2, Imm: 4}), value: 5}
	for _, x.moveFault = range []api.Fault{api.FaultNone, api.FaultDenied} {
		r := someRegs()
		want := model(r, x)
		b := &scribbler{bus: bus{answers: x}, r: &r}
		got := core.Step(&r, b)
		same(t, "a bus that writes to the registers", outcome{r, got, b.calls}, want)
	}
}

type scribbler struct {
	bus
	r *api.Regs
}

func (s *scribbler) Fetch(pc uint32) (uint32, int, api.Fault) {
	*s.r = api.Regs{}
	return s.bus.Fetch(pc)
}

func (s *scribbler) Load(addr uint32, size int) (uint32, int, api.Fault) {
	*s.r = api.Regs{PC: 1}
	return s.bus.Load(addr, size)
}
