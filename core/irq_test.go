package core_test

import (
	"math"
	"testing"

	"cloister/api"
)

// TestTaken: a line that is to be taken is the whole step, whatever number it
// has.
func TestTaken(t *testing.T) {
	for _, line := range []int{0, 5, 31, -1, 1 << 32, 1<<32 + 7, math.MaxInt, math.MinInt} {
		r := someRegs()
		r.On = true
		want := r
		want.Back, want.PC, want.Handling, want.R[14] = r.PC, r.Vector, true, uint32(line)
		got := step(r, answers{word: wordOf(t, api.Instr{Op: api.OpHalt}), fetching: 9, line: line, there: true})
		same(t, "a line", got, outcome{want, api.Result{Kind: api.Taken, Cycles: 4, Line: line}, []call{{what: "irq"}}})
	}
}

// TestNotTaken: nobody asks for a line unless it may be taken; and where there
// is none, its number is nothing.
func TestNotTaken(t *testing.T) {
	for _, c := range []struct{ on, handling, there, asked bool }{
		{false, false, true, false}, {false, true, true, false}, {true, true, true, false}, {true, false, false, true},
	} {
		r := someRegs()
		r.On, r.Handling = c.on, c.handling
		want := r
		want.PC = r.PC + 4
		calls := []call{fetchOf(r)}
		if c.asked {
			calls = []call{{what: "irq"}, fetchOf(r)}
		}
		got := step(r, answers{word: wordOf(t, api.Instr{Op: api.OpNop}), line: 5, there: c.there})
		same(t, "no line", got, outcome{want, api.Result{Kind: api.Stepped, Cycles: 1}, calls})
	}
}

func TestComeBack(t *testing.T) {
	eret := answers{word: wordOf(t, api.Instr{Op: api.OpEret}), fetching: 7}
	for _, on := range []bool{false, true} {
		r := someRegs()
		r.On, r.Handling = on, true
		want := r
		want.PC, want.Handling = r.Back, false
		same(t, "eret", step(r, eret), outcome{want, api.Result{Kind: api.Stepped, Cycles: 8}, []call{fetchOf(r)}})
	}
	r := someRegs()
	result := api.Result{Kind: api.Faulted, Cycles: 8, Fault: api.FaultIllegal, Addr: r.PC}
	same(t, "eret without an interrupt", step(r, eret), outcome{r, result, []call{fetchOf(r)}})
	r.On = true
	same(t, "eret without an interrupt", step(r, eret), outcome{r, result, []call{{what: "irq"}, fetchOf(r)}})
}

// TestOneAfterAnother: while one is under way no other is taken; behind eret
// the next one is, ahead of an instruction. What ei allows is taken by the
// step behind it.
func TestOneAfterAnother(t *testing.T) {
	waiting := answers{line: 9, there: true}
	r := someRegs()
	for n, c := range []struct {
		op   api.Op
		kind api.ResultKind
		pc   uint32
	}{
		{api.OpEi, api.Stepped, 0x1004},
		{api.OpNop, api.Taken, 0x2000},
		{api.OpNop, api.Stepped, 0x2004},
		{api.OpEi, api.Stepped, 0x2008},
		{api.OpEret, api.Stepped, 0x1004},
		{api.OpNop, api.Taken, 0x2000},
		{api.OpDi, api.Stepped, 0x2004},
		{api.OpEret, api.Stepped, 0x1004},
		{api.OpNop, api.Stepped, 0x1008},
	} {
		waiting.word = wordOf(t, api.Instr{Op: c.op})
		got := step(r, waiting)
		if got.result.Kind != c.kind || got.regs.PC != c.pc {
			t.Fatalf("step %d: %v", n, got)
		}
		r = got.regs
	}
}
