package core_test

import (
	"math"
	"testing"

	"cloister/api"
	"cloister/isa"
)

var faults = []api.Fault{api.FaultAlign, api.FaultOutside, api.FaultUnmapped, api.FaultMalformed, api.FaultDenied, api.FaultIllegal, api.FaultIllegal + 1, -1}

// TestFetchRefused: the word that comes with a fault is not looked at.
func TestFetchRefused(t *testing.T) {
	for _, fault := range faults {
		r := someRegs()
		got := step(r, answers{word: wordOf(t, api.Instr{Op: api.OpLw, D: 1, A: 2}), fetching: 36, fetchFault: fault})
		result := api.Result{Kind: api.Faulted, Cycles: 37, Fault: fault, Addr: r.PC}
		same(t, "a fetch that is refused", got, outcome{r, result, []call{fetchOf(r)}})
	}
}

// TestNoInstruction: no op, a bit that is none of the form, a number that the
// op does not take.
func TestNoInstruction(t *testing.T) {
	for _, word := range []uint32{0, most, 49 << 26, 0xc0000001, 0x48400020, 0x0448c001} {
		r := someRegs()
		got := step(r, answers{word: word, fetching: 36})
		result := api.Result{Kind: api.Faulted, Cycles: 37, Fault: api.FaultIllegal, Addr: r.PC}
		same(t, "a word that is no instruction", got, outcome{r, result, []call{fetchOf(r)}})
	}
}

// TestMoveRefused: no register is written, and nothing is told as loaded.
func TestMoveRefused(t *testing.T) {
	for op := api.OpLb; op <= api.OpSw; op++ {
		for _, fault := range faults {
			i := api.Instr{Op: op, A: 2, Imm: -4}
			name := isa.Name(op)
			moving := call{what: "load", at: 0x020201fe, size: sizeOf(name)}
			if name[0] == 's' {
				i.B = 3
				moving.what, moving.v = "store", 0x03030303>>(32-8*sizeOf(name))
			} else {
				i.D = 2
			}
			r := someRegs()
			got := step(r, answers{word: wordOf(t, i), fetching: 6, value: 9, moving: 20, moveFault: fault})
			result := api.Result{Kind: api.Faulted, Cycles: 27, Fault: fault, Addr: 0x020201fe}
			same(t, name, got, outcome{r, result, []call{fetchOf(r), moving}})
		}
	}
}

// TestCyclesGoRound: sums of cycles are taken modulo 2 to the 64.
func TestCyclesGoRound(t *testing.T) {
	lw := wordOf(t, api.Instr{Op: api.OpLw, D: 1, A: 2})
	sw := wordOf(t, api.Instr{Op: api.OpSw, A: 2, B: 1})
	for _, c := range []struct{ fetching, moving, fetched, moved int }{
		{math.MaxInt, 0, math.MinInt, math.MinInt},
		{math.MaxInt, math.MaxInt, math.MinInt, -1},
		{-1, -1, 0, -1},
		{math.MinInt, math.MinInt, math.MinInt + 1, 1},
	} {
		for _, fault := range []api.Fault{api.FaultNone, api.FaultDenied} {
			x := answers{word: lw, fetching: c.fetching, moving: c.moving, moveFault: fault}
			if got := step(someRegs(), x); got.result.Cycles != c.moved {
				t.Errorf("lw of %v: %d", c, got.result.Cycles)
			}
			x.word = sw
			if got := step(someRegs(), x); got.result.Cycles != c.moved {
				t.Errorf("sw of %v: %d", c, got.result.Cycles)
			}
			x.fetchFault = fault
			x.word = wordOf(t, api.Instr{Op: api.OpNop})
			if got := step(someRegs(), x); got.result.Cycles != c.fetched {
				t.Errorf("nop of %v: %d", c, got.result.Cycles)
			}
		}
	}
}
