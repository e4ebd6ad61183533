package isa_test

import (
	"math"
	"strings"
	"testing"

	"cloister/api"
)

// noOps are numbers that no op has.
func noOps() []api.Op {
	return []api.Op{0, -1, -2, -48, 49, 50, 63, 64, 65, 64 + 14, 256, 257, 1 << 31, 1<<32 + 1, 1<<32 + 14, math.MaxInt, math.MinInt, math.MinInt + 1}
}

func TestExamples(t *testing.T) {
	for _, c := range []struct {
		i             api.Instr
		w             uint32
		s             string
		reads, writes uint16
	}{
		{api.Instr{Op: api.OpAdd, D: 1, A: 2, B: 3}, 0x0448c000, "add r1, r2, r3", 0b1100, 0b10},
		{api.Instr{Op: api.OpAddi, D: 1, Imm: -1}, 0x3843ffff, "addi r1, r0, -1", 0, 0b10},
		{api.Instr{Op: api.OpAddi, D: 1, A: 2, Imm: -5}, 0x384bfffb, "addi r1, r2, -5", 0b100, 0b10},
		{api.Instr{Op: api.OpLui, D: 1, Imm: 7}, 0x5c400007, "lui r1, 7", 0, 0b10},
		{api.Instr{Op: api.OpLw, D: 1, A: 2, Imm: 8}, 0x70480008, "lw r1, 8(r2)", 0b100, 0b10},
		{api.Instr{Op: api.OpSw, A: 2, B: 3, Imm: 8}, 0x7c8c0008, "sw r3, 8(r2)", 0b1100, 0},
		{api.Instr{Op: api.OpBeq, A: 1, B: 2, Imm: -3}, 0x804bfffd, "beq r1, r2, -3", 0b110, 0},
		{api.Instr{Op: api.OpJal, D: 15, Imm: 100}, 0x9bc00064, "jal r15, 100", 0, 1 << 15},
		{api.Instr{Op: api.OpJalr, A: 15}, 0x9c3c0000, "jalr r0, r15, 0", 1 << 15, 0},
		{api.Instr{Op: api.OpHcall, Imm: 3}, 0xa0000003, "hcall 3", 0b1111110, 0b1110},
		{api.Instr{Op: api.OpClock, D: 1}, 0xa4400000, "clock r1", 0, 0b10},
		{api.Instr{Op: api.OpWait}, 0xa8000000, "wait", 0, 0},
		{api.Instr{Op: api.OpVec, A: 1}, 0xb8400000, "vec r1", 0b10, 0},
		{api.Instr{Op: api.OpHalt}, 0xbc000000, "halt", 0, 0},
	} {
		wantEncode(t, c.i, c.w, api.OK)
		wantDecode(t, c.w, c.i, api.OK)
		wantText(t, c.i, c.s)
		wantUses(t, c.i, c.reads, c.writes)
	}
	wantDecode(t, 0xc0000001, api.Instr{}, api.ErrIsaBits)
	wantDecode(t, 0x48400020, api.Instr{}, api.ErrIsaImm)
	wantDecode(t, 0, api.Instr{}, api.ErrIsaOp)
}

func TestErrorNumbers(t *testing.T) {
	for n, e := range []api.Errno{api.ErrIsaOp, api.ErrIsaReg, api.ErrIsaImm, api.ErrIsaBits} {
		if e != api.Errno(100+n) {
			t.Errorf("an error is %d, want %d", e, 100+n)
		}
	}
}

// TestOps: the 48 ops have their forms and names, nothing else has one.
func TestOps(t *testing.T) {
	all := kinds()
	if len(all) != numberOfOps+1 || api.OpNop != numberOfOps {
		t.Fatalf("there are %d ops, up to %d", len(all)-1, api.OpNop)
	}
	for n, k := range all[1:] {
		op := api.Op(n + 1)
		wantOp(t, op, k.form, k.name)
		wantNamed(t, k.name, op, true)
	}
	for _, op := range noOps() {
		wantOp(t, op, 0, "")
	}
	for op := api.Op(-300); op < 300; op++ {
		if op < 1 || op > numberOfOps {
			wantOp(t, op, 0, "")
		}
	}
}

// TestNoNames: a name is found by all of it, in small letters, alone.
func TestNoNames(t *testing.T) {
	all, names := kinds(), map[string]struct{}{}
	for _, k := range all[1:] {
		names[k.name] = struct{}{}
	}
	if len(names) != numberOfOps {
		t.Errorf("there are %d names", len(names))
	}
	for _, k := range all[1:] {
		s := k.name
		like := []string{strings.ToUpper(s), strings.ToUpper(s[:1]) + s[1:], " " + s, s + " ", s + "\x00", s + "\n", s + ":", s + s, s + "i", s + "u", s[1:], s[:len(s)-1], "\t" + s, "é" + s}
		for _, other := range like {
			if _, there := names[other]; !there {
				wantNamed(t, other, 0, false)
			}
		}
	}
	for _, s := range []string{"", " ", "\x00", "0", "1", "14", "r0", "r1", "none", "trap", "li", "mv", "j", "call", "ret", ".word", "\xff", "ſlt", "ｎop", strings.Repeat("a", 1<<20)} {
		wantNamed(t, s, 0, false)
	}
}

// TestRegisters: each register of each op, where the form has it and where not.
func TestRegisters(t *testing.T) {
	all := kinds()
	for op := api.Op(1); op <= numberOfOps; op++ {
		for r := range 256 {
			n := uint8(r)
			for _, i := range []api.Instr{{D: n}, {A: n}, {B: n}, {D: n, A: n}, {A: n, B: n}, {D: n, B: n}, {D: n, A: n, B: n}} {
				i.Op = op
				hold(t, all, i)
			}
		}
		for d := range uint8(17) {
			for a := range uint8(17) {
				for b := range uint8(17) {
					hold(t, all, api.Instr{Op: op, D: d, A: a, B: b})
				}
			}
		}
	}
}

// TestImm: the numbers that each op takes, at their bounds, and others.
func TestImm(t *testing.T) {
	all := kinds()
	for op := api.Op(1); op <= numberOfOps; op++ {
		least, most := all[op].bounds()
		for near := int64(-3); near <= 3; near++ {
			for _, v := range []int64{least + near, most + near, near} {
				hold(t, all, api.Instr{Op: op, Imm: int32(v)})
			}
			for n := range 32 {
				hold(t, all, api.Instr{Op: op, Imm: 1<<n + int32(near)})
				hold(t, all, api.Instr{Op: op, Imm: -1<<n + int32(near)})
			}
		}
		for v := int32(-70); v < 70; v++ {
			hold(t, all, api.Instr{Op: op, Imm: v})
		}
		hold(t, all, api.Instr{Op: op, Imm: math.MaxInt32})
		hold(t, all, api.Instr{Op: op, Imm: math.MinInt32})
	}
}

// TestFirstError: of several that apply, the one that is named first.
func TestFirstError(t *testing.T) {
	for _, op := range noOps() {
		for _, i := range []api.Instr{{}, {D: 16}, {A: 255}, {B: 1}, {Imm: math.MinInt32}, {D: 1, A: 2, B: 3, Imm: 4}} {
			i.Op = op
			wantEncode(t, i, 0, api.ErrIsaOp)
			wantText(t, i, "")
			wantUses(t, i, 0, 0)
		}
	}
	for op := api.Op(1); op <= numberOfOps; op++ {
		wantEncode(t, api.Instr{Op: op, D: 16, Imm: math.MaxInt32}, 0, api.ErrIsaReg)
		wantEncode(t, api.Instr{Op: op, A: 16, Imm: math.MinInt32}, 0, api.ErrIsaReg)
		wantEncode(t, api.Instr{Op: op, B: 16, Imm: math.MinInt32}, 0, api.ErrIsaReg)
		wantEncode(t, api.Instr{Op: op, Imm: math.MaxInt32}, 0, api.ErrIsaImm)
	}
	wantDecode(t, 0x03ffffff, api.Instr{}, api.ErrIsaOp)
	wantDecode(t, 0xc7ffffff, api.Instr{}, api.ErrIsaOp)
	wantDecode(t, 0xffffffff, api.Instr{}, api.ErrIsaOp)
	wantDecode(t, 0x07ffffff, api.Instr{}, api.ErrIsaBits)
}

// TestNumbersInWords: of lui and hcall, which have more bits than they take,
// and of the shifts, the upper ones are the number's, so they are no stray bits.
func TestNumbersInWords(t *testing.T) {
	for bit := range 22 {
		w, e := uint32(23<<26|1<<bit), api.OK
		if bit >= 18 {
			e = api.ErrIsaImm
		}
		i := api.Instr{Op: api.OpLui, Imm: 1 << bit}
		if e != api.OK {
			i = api.Instr{}
		}
		wantDecode(t, w, i, e)
	}
	for bit := range 26 {
		i, e := api.Instr{Op: api.OpHcall, Imm: 1 << bit}, api.OK
		if bit >= 18 {
			i, e = api.Instr{}, api.ErrIsaImm
		}
		wantDecode(t, 40<<26|1<<bit, i, e)
	}
	for bit := range 18 {
		i, e := api.Instr{Op: api.OpShri, D: 15, A: 15, Imm: 1 << bit}, api.OK
		if bit >= 5 {
			i, e = api.Instr{}, api.ErrIsaImm
		}
		wantDecode(t, 19<<26|0xff<<18|1<<bit, i, e)
	}
}

// TestSigns: a number's highest bit is its sign just where the op takes one.
func TestSigns(t *testing.T) {
	wantDecode(t, 14<<26|1<<17, api.Instr{Op: api.OpAddi, Imm: -131072}, api.OK)
	wantDecode(t, 14<<26|1<<17-1, api.Instr{Op: api.OpAddi, Imm: 131071}, api.OK)
	wantDecode(t, 16<<26|1<<17, api.Instr{Op: api.OpOri, Imm: 131072}, api.OK)
	wantDecode(t, 16<<26|1<<18-1, api.Instr{Op: api.OpOri, Imm: 262143}, api.OK)
	wantDecode(t, 38<<26|1<<21, api.Instr{Op: api.OpJal, Imm: -2097152}, api.OK)
	wantDecode(t, 38<<26|1<<21-1, api.Instr{Op: api.OpJal, Imm: 2097151}, api.OK)
	wantDecode(t, 23<<26|1<<17, api.Instr{Op: api.OpLui, Imm: 131072}, api.OK)
	wantDecode(t, 40<<26|1<<17, api.Instr{Op: api.OpHcall, Imm: 131072}, api.OK)
	wantText(t, api.Instr{Op: api.OpSb, A: 15, B: 14, Imm: -131072}, "sb r14, -131072(r15)")
	wantText(t, api.Instr{Op: api.OpXori, D: 10, A: 11, Imm: 262143}, "xori r10, r11, 262143")
	wantText(t, api.Instr{Op: api.OpJal, Imm: -2097152}, "jal r0, -2097152")
}
