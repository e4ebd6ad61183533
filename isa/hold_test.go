package isa_test

import (
	"math/rand"
	"testing"

	"cloister/api"
	"cloister/isa"
)

// TestEachBit: words of each number of an op, with one bit or two behind it, or
// all but one.
func TestEachBit(t *testing.T) {
	all := kinds()
	for op := range uint32(64) {
		w := op << 26
		holdWord(t, all, w)
		holdWord(t, all, w|1<<26-1)
		for one := range 26 {
			holdWord(t, all, (w|1<<26-1)&^(1<<one))
			for two := range one + 1 {
				holdWord(t, all, w|1<<one|1<<two)
			}
		}
	}
}

func anyInstr(random *rand.Rand, all []kind) api.Instr {
	i := api.Instr{Op: api.Op(1 + random.Intn(numberOfOps))}
	k := all[i.Op]
	if k.has("D") {
		i.D = uint8(random.Intn(16))
	}
	if k.has("A") {
		i.A = uint8(random.Intn(16))
	}
	if k.has("B") {
		i.B = uint8(random.Intn(16))
	}
	least, most := k.bounds()
	i.Imm = int32(least + random.Int63n(most-least+1))
	return i
}

// spoil changes one thing, so that the instruction may be wrong now.
func spoil(random *rand.Rand, i api.Instr) api.Instr {
	switch random.Intn(5) {
	case 0:
		i.Op = api.Op(random.Intn(80) - 15)
	case 1:
		i.D = uint8(random.Intn(20))
	case 2:
		i.A = uint8(random.Intn(20))
	case 3:
		i.B = uint8(random.Intn(20))
	default:
		i.Imm += 1 << random.Intn(32)
	}
	return i
}

// TestAnyInstruction: whatever it is, it is told as the model tells it.
func TestAnyInstruction(t *testing.T) {
	all, random := kinds(), rand.New(rand.NewSource(1))
	for range 30000 {
		i := anyInstr(random, all)
		hold(t, all, i)
		i = spoil(random, i)
		hold(t, all, i)
		hold(t, all, spoil(random, i))
	}
}

// TestAnyWord: whatever it is, it is read as the model reads it.
func TestAnyWord(t *testing.T) {
	all, random := kinds(), rand.New(rand.NewSource(2))
	for range 30000 {
		holdWord(t, all, random.Uint32())
		w := word(all, anyInstr(random, all))
		holdWord(t, all, w)
		holdWord(t, all, w^1<<random.Intn(32))
	}
}

// TestThereAndBack: each instruction that may be has one word, and each word is
// one instruction's at most.
func TestThereAndBack(t *testing.T) {
	there := func(w uint32) {
		i, e := isa.Decode(w)
		if e != api.OK {
			return
		}
		if back, wrong := isa.Encode(i); back != w || wrong != api.OK {
			t.Fatalf("%08x is read as %v, which is written as %08x, %d", w, i, back, wrong)
		}
	}
	for op := range uint32(64) {
		for low := range uint32(1 << 18) {
			there(op<<26 | low)
			there(op<<26 | low<<8)
		}
	}
	for low := range uint32(1 << 22) {
		there(38<<26 | 5<<22 | low)
	}
	for imm := int32(-1 << 21); imm < 1<<21; imm++ {
		i := api.Instr{Op: api.OpJal, D: 5, Imm: imm}
		w, e := isa.Encode(i)
		if back, wrong := isa.Decode(w); e != api.OK || back != i || wrong != api.OK {
			t.Fatalf("%v is written as %08x, %d, which is read as %v, %d", i, w, e, back, wrong)
		}
	}
}

// TestOneText: two instructions that may be, with one text, are the same; and
// what may not be has none.
func TestOneText(t *testing.T) {
	all, random := kinds(), rand.New(rand.NewSource(3))
	texts := map[string]api.Instr{}
	see := func(i api.Instr) {
		s := isa.Text(i)
		if _, e := isa.Encode(i); e != api.OK || s == "" {
			t.Fatalf("Text(%v) is %q, Encode tells %d", i, s, e)
		}
		if other, there := texts[s]; there && other != i {
			t.Fatalf("%q is the text of %v and of %v", s, other, i)
		}
		texts[s] = i
	}
	for range 100000 {
		see(anyInstr(random, all))
	}
	for op := api.Op(1); op <= numberOfOps; op++ {
		for d := range uint8(16) {
			for a := range uint8(16) {
				for b := range uint8(16) {
					if i := (api.Instr{Op: op, D: d, A: a, B: b}); wrong(all, i) == api.OK {
						see(i)
					}
				}
			}
		}
	}
}

// TestSameAgain: what is told of one instruction hangs on nothing that was
// asked before.
func TestSameAgain(t *testing.T) {
	all, random := kinds(), rand.New(rand.NewSource(4))
	i := api.Instr{Op: api.OpSw, A: 2, B: 3, Imm: 8}
	for range 1000 {
		other := spoil(random, anyInstr(random, all))
		isa.Encode(other)
		isa.Decode(random.Uint32())
		isa.Text(other)
		isa.Uses(other)
		hold(t, all, i)
	}
}
