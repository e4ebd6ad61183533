package core_test

import (
	"math/rand"
	"testing"

	"cloister/api"
	"cloister/isa"
)

// anyNumber is often one at a bound.
func anyNumber(random *rand.Rand) uint32 {
	bounds := []uint32{0, 1, 31, 32, 1<<31 - 1, 1 << 31, 1<<32 - 1}
	if random.Intn(2) == 0 {
		return bounds[random.Intn(len(bounds))]
	}
	return random.Uint32() >> random.Intn(32)
}

func anyRegs(random *rand.Rand) api.Regs {
	r := api.Regs{
		PC: anyNumber(random), Vector: anyNumber(random), Back: anyNumber(random),
		On: random.Intn(2) == 0, Handling: random.Intn(2) == 0,
	}
	for n := range r.R {
		r.R[n] = anyNumber(random)
	}
	return r
}

// anyInstr is one that may be; its number is often one at a bound.
func anyInstr(random *rand.Rand, op api.Op) api.Instr {
	for {
		i := api.Instr{Op: op}
		switch isa.Form(op) {
		case api.FormDAB:
			i.D, i.A, i.B = uint8(random.Intn(16)), uint8(random.Intn(16)), uint8(random.Intn(16))
		case api.FormDAI:
			i.D, i.A = uint8(random.Intn(16)), uint8(random.Intn(16))
		case api.FormABI:
			i.A, i.B = uint8(random.Intn(16)), uint8(random.Intn(16))
		case api.FormDI, api.FormD:
			i.D = uint8(random.Intn(16))
		case api.FormA:
			i.A = uint8(random.Intn(16))
		}
		i.Imm = int32(random.Uint32()) >> random.Intn(32)
		if random.Intn(3) == 0 {
			i.Imm = 0
		}
		if _, e := isa.Encode(i); e == api.OK {
			return i
		}
	}
}

func anyFault(random *rand.Rand) api.Fault {
	if random.Intn(4) > 0 {
		return api.FaultNone
	}
	return faults[random.Intn(len(faults))]
}

func anyAnswers(random *rand.Rand) answers {
	x := answers{
		fetching: random.Intn(61), moving: random.Intn(61),
		value: anyNumber(random), clock: random.Uint64() >> random.Intn(64),
		fetchFault: anyFault(random), moveFault: anyFault(random),
		line: random.Intn(32), there: random.Intn(3) == 0,
	}
	if random.Intn(8) == 0 {
		x.fetching, x.moving, x.line = int(random.Uint64()), int(random.Uint64()), int(random.Uint64())
	}
	return x
}

func eachOp(rounds int, do func(op api.Op)) {
	for range rounds {
		for op := api.OpAdd; op <= api.OpNop; op++ {
			do(op)
		}
	}
}

// TestAnyStep: whatever the registers and the bus's answers are, a step comes
// to what the model says.
func TestAnyStep(t *testing.T) {
	random := rand.New(rand.NewSource(1))
	eachOp(3000, func(op api.Op) {
		r, x, i := anyRegs(random), anyAnswers(random), anyInstr(random, op)
		x.word = wordOf(t, i)
		same(t, isa.Text(i), step(r, x), model(r, x))
		x.word ^= 1 << random.Intn(32)
		same(t, "a word with one bit changed", step(r, x), model(r, x))
		x.word = random.Uint32()
		same(t, "a word", step(r, x), model(r, x))
	})
}

// TestManySteps: the registers that one step leaves are those of the next.
func TestManySteps(t *testing.T) {
	random := rand.New(rand.NewSource(2))
	r := anyRegs(random)
	want := r
	for range 50000 {
		x := anyAnswers(random)
		x.word = wordOf(t, anyInstr(random, api.Op(1+random.Intn(int(api.OpNop)))))
		got, asked := step(r, x), model(want, x)
		same(t, "a step of many", got, asked)
		r, want = got.regs, asked.regs
	}
}

// TestWritesWhatIsTold: no register is written but those that isa.Uses tells.
func TestWritesWhatIsTold(t *testing.T) {
	random := rand.New(rand.NewSource(3))
	eachOp(300, func(op api.Op) {
		r, x, i := anyRegs(random), anyAnswers(random), anyInstr(random, op)
		x.word = wordOf(t, i)
		_, writes := isa.Uses(i)
		got := step(r, x)
		switch got.result.Kind {
		case api.Taken:
			writes = 1 << 14
		case api.Faulted:
			writes = 0
		}
		for n := 1; n < api.Registers; n++ {
			if writes>>n&1 == 0 && got.regs.R[n] != r.R[n] {
				t.Fatalf("%s (%d): register %d is %d, and was %d", isa.Text(i), got.result.Kind, n, got.regs.R[n], r.R[n])
			}
		}
	})
}

// TestReadsWhatIsTold: what is in registers that an instruction does not read
// shows in nothing but themselves.
func TestReadsWhatIsTold(t *testing.T) {
	random := rand.New(rand.NewSource(4))
	eachOp(300, func(op api.Op) {
		r, x, i := anyRegs(random), anyAnswers(random), anyInstr(random, op)
		x.word = wordOf(t, i)
		reads, _ := isa.Uses(i)
		got := step(r, x)
		other := r
		for n := range other.R {
			if reads>>n&1 == 0 {
				other.R[n] = random.Uint32()
			}
		}
		now := step(other, x)
		for n := 1; n < api.Registers; n++ {
			if reads>>n&1 == 0 && got.regs.R[n] == r.R[n] && now.regs.R[n] == other.R[n] {
				now.regs.R[n] = r.R[n]
			}
		}
		same(t, isa.Text(i)+" with other registers that it does not read", now, got)
	})
}

// TestTakenAndLeft: an interrupt that is left at once leaves no trace but the
// register 14 and Back.
func TestTakenAndLeft(t *testing.T) {
	random := rand.New(rand.NewSource(5))
	eret := wordOf(t, api.Instr{Op: api.OpEret})
	for range 1000 {
		r, line := anyRegs(random), int(random.Uint32())
		r.On, r.Handling = true, false
		taken := step(r, answers{line: line, there: true})
		left := step(taken.regs, answers{word: eret, line: line + 1, there: true})
		r.R[0], r.R[14], r.Back = 0, uint32(line), r.PC
		if left.regs != r {
			t.Fatalf("%v, and was %v", left.regs, r)
		}
	}
}

// TestCallsOfTheBus: one Fetch, at most one call behind it; the cycles are
// theirs, and 1.
func TestCallsOfTheBus(t *testing.T) {
	random := rand.New(rand.NewSource(6))
	eachOp(300, func(op api.Op) {
		r, x := anyRegs(random), anyAnswers(random)
		x.word = wordOf(t, anyInstr(random, op))
		got := step(r, x)
		calls := got.calls
		if r.On && !r.Handling {
			if len(calls) == 0 || calls[0].what != "irq" {
				t.Fatalf("no line was asked for: %v", got)
			}
			calls = calls[1:]
		}
		if got.result.Kind == api.Taken {
			if len(calls) != 0 || got.result.Cycles != api.CostIrq {
				t.Fatalf("a line, and more: %v", got)
			}
			return
		}
		cycles := x.fetching + 1
		if len(calls) == 2 && (calls[1].what == "load" || calls[1].what == "store") {
			cycles += x.moving
		} else if len(calls) > 2 || len(calls) == 2 && calls[1].what != "clock" {
			t.Fatalf("calls: %v", calls)
		}
		if calls[0] != fetchOf(r) || got.result.Cycles != cycles {
			t.Fatalf("%v, of %d and %d", got, x.fetching, x.moving)
		}
	})
}

// TestSameAgain: a step hangs on nothing that was done before.
func TestSameAgain(t *testing.T) {
	random := rand.New(rand.NewSource(7))
	r, x := someRegs(), answers{word: wordOf(t, api.Instr{Op: api.OpLw, D: 1, A: 2, Imm: 8}), value: 3, moving: 4, fetching: 5}
	first := step(r, x)
	for range 1000 {
		other := anyAnswers(random)
		other.word = random.Uint32()
		step(anyRegs(random), other)
		same(t, "the same step again", step(r, x), first)
	}
}
