package core_test

import (
	"math"
	"testing"

	"cloister/api"
	"cloister/isa"
)

const (
	most  = math.MaxUint32
	least = 1 << 31 // of those with a sign
)

// TestWorkedOut: d of a and b, by numbers that are written out.
func TestWorkedOut(t *testing.T) {
	for _, c := range []struct {
		op         api.Op
		a, b, want uint32
	}{
		{api.OpAdd, 2, 3, 5}, {api.OpAdd, most, 1, 0}, {api.OpAdd, least, least, 0},
		{api.OpSub, 3, 2, 1}, {api.OpSub, 0, 1, most}, {api.OpSub, 0, least, least},
		{api.OpMul, 6, 7, 42}, {api.OpMul, most, most, 1}, {api.OpMul, 1 << 16, 1 << 16, 0}, {api.OpMul, most, 2, most - 1},
		{api.OpDivu, 43, 7, 6}, {api.OpDivu, most, 2, least - 1}, {api.OpDivu, least, most, 0}, {api.OpDivu, 0, 0, most}, {api.OpDivu, 5, 0, most},
		{api.OpRemu, 43, 7, 1}, {api.OpRemu, most, 2, 1}, {api.OpRemu, least, most, least}, {api.OpRemu, 0, 0, 0}, {api.OpRemu, 5, 0, 5},
		{api.OpAnd, 0xff00ff00, 0x0ff00ff0, 0x0f000f00}, {api.OpOr, 0xff00ff00, 0x0ff00ff0, 0xfff0fff0}, {api.OpXor, 0xff00ff00, 0x0ff00ff0, 0xf0f0f0f0},
		{api.OpShl, 3, 0, 3}, {api.OpShl, 3, 31, least}, {api.OpShl, 3, 32, 3}, {api.OpShl, 3, most, least},
		{api.OpShr, least, 0, least}, {api.OpShr, most, 31, 1}, {api.OpShr, most, 32, most}, {api.OpShr, most, 63, 1},
		{api.OpSar, least, 0, least}, {api.OpSar, least, 31, most}, {api.OpSar, least, 4, 0xf8000000}, {api.OpSar, least - 1, 4, 0x07ffffff}, {api.OpSar, least, 33, 0xc0000000},
		{api.OpSlt, 1, 2, 1}, {api.OpSlt, 2, 2, 0}, {api.OpSlt, 2, 1, 0}, {api.OpSlt, least, least - 1, 1}, {api.OpSlt, least - 1, least, 0}, {api.OpSlt, most, 0, 1},
		{api.OpSltu, 1, 2, 1}, {api.OpSltu, 2, 2, 0}, {api.OpSltu, 2, 1, 0}, {api.OpSltu, least, least - 1, 0}, {api.OpSltu, least - 1, least, 1}, {api.OpSltu, most, 0, 0},
	} {
		r := someRegs()
		want := r
		r.R[2], r.R[3] = c.a, c.b
		want.R[1], want.R[2], want.R[3], want.PC = c.want, c.a, c.b, r.PC+4
		got := step(r, answers{word: wordOf(t, api.Instr{Op: c.op, D: 1, A: 2, B: 3}), fetching: 6, moving: 99, clock: 99, line: 99, there: true})
		same(t, isa.Name(c.op), got, outcome{want, api.Result{Kind: api.Stepped, Cycles: 7}, []call{fetchOf(r)}})
	}
}

// TestWithNumbers: d of a and n.
func TestWithNumbers(t *testing.T) {
	const n = 1<<18 - 1
	for _, c := range []struct {
		op   api.Op
		a    uint32
		n    int32
		want uint32
	}{
		{api.OpAddi, 7, -8, most}, {api.OpAddi, most, 1, 0}, {api.OpAddi, 0, -1 << 17, most - 1<<17 + 1}, {api.OpAddi, 0, 1<<17 - 1, 1<<17 - 1},
		{api.OpAndi, most, n, n}, {api.OpAndi, 0xf0000001, 3, 1}, {api.OpOri, least, n, least + n}, {api.OpXori, most, n, most - n},
		{api.OpShli, 3, 31, least}, {api.OpShli, 3, 0, 3}, {api.OpShri, most, 31, 1}, {api.OpShri, most, 0, most}, {api.OpSari, least, 31, most}, {api.OpSari, least, 1, 0xc0000000},
		{api.OpSlti, most, 0, 1}, {api.OpSlti, most, -1, 0}, {api.OpSlti, least, -1 << 17, 1}, {api.OpSlti, 0, -1, 0}, {api.OpSlti, 5, 6, 1},
		{api.OpSltui, most - 1, -1, 1}, {api.OpSltui, most, -1, 0}, {api.OpSltui, 5, 5, 0}, {api.OpSltui, 5, 6, 1}, {api.OpSltui, most, 0, 0},
	} {
		r := someRegs()
		want := r
		r.R[2] = c.a
		want.R[1], want.R[2], want.PC = c.want, c.a, r.PC+4
		got := step(r, answers{word: wordOf(t, api.Instr{Op: c.op, D: 1, A: 2, Imm: c.n}), fetching: 12})
		same(t, isa.Name(c.op), got, outcome{want, api.Result{Kind: api.Stepped, Cycles: 13}, []call{fetchOf(r)}})
	}
	for _, n := range []int32{0, 1, 7, 1<<18 - 1} {
		want := someRegs()
		want.R[1], want.PC = uint32(n)*16384, want.PC+4
		got := step(someRegs(), answers{word: wordOf(t, api.Instr{Op: api.OpLui, D: 1, Imm: n})})
		same(t, "lui", got, outcome{want, api.Result{Kind: api.Stepped, Cycles: 1}, []call{fetchOf(someRegs())}})
	}
}

// TestLoads: what is above the bytes that were asked for is not looked at.
func TestLoads(t *testing.T) {
	for _, c := range []struct {
		op      api.Op
		size    int
		v, want uint32
	}{
		{api.OpLb, 1, 0x7f, 0x7f}, {api.OpLb, 1, 0x80, 0xffffff80}, {api.OpLb, 1, 0xffffff7f, 0x7f}, {api.OpLb, 1, 0x12345680, 0xffffff80},
		{api.OpLbu, 1, 0x80, 0x80}, {api.OpLbu, 1, 0xffffff7f, 0x7f}, {api.OpLbu, 1, most, 0xff},
		{api.OpLh, 2, 0x7fff, 0x7fff}, {api.OpLh, 2, 0x8000, 0xffff8000}, {api.OpLh, 2, 0xffff7fff, 0x7fff}, {api.OpLh, 2, 0x80, 0x80},
		{api.OpLhu, 2, 0x8000, 0x8000}, {api.OpLhu, 2, 0xffff7fff, 0x7fff}, {api.OpLhu, 2, most, 0xffff},
		{api.OpLw, 4, least, least}, {api.OpLw, 4, most, most}, {api.OpLw, 4, 0x12345678, 0x12345678},
	} {
		for _, place := range []struct {
			a    uint32
			n    int32
			want uint32
		}{{100, 8, 108}, {100, -8, 92}, {0, -1, most}, {most, 1, 0}, {most, 1<<17 - 1, 1<<17 - 2}, {3, 0, 3}} {
			r := someRegs()
			r.R[2] = place.a
			want := r
			want.R[1], want.PC = c.want, r.PC+4
			got := step(r, answers{word: wordOf(t, api.Instr{Op: c.op, D: 1, A: 2, Imm: place.n}), fetching: 6, value: c.v, moving: 20})
			result := api.Result{Kind: api.Stepped, Cycles: 27, Addr: place.want, Loaded: true, Value: c.want}
			same(t, isa.Name(c.op), got, outcome{want, result, []call{fetchOf(r), {what: "load", at: place.want, size: c.size}}})
		}
	}
}

// TestLoadsToWhereFrom: the register that the address is in may be written.
func TestLoadsToWhereFrom(t *testing.T) {
	got := step(someRegs(), answers{word: wordOf(t, api.Instr{Op: api.OpLw, D: 2, A: 2, Imm: 4}), value: 9})
	if got.regs.R[2] != 9 || got.result.Addr != 0x02020206 {
		t.Errorf("%v", got)
	}
}

// TestStores: the lowest bytes are handed on, and noughts above them; no
// result tells where.
func TestStores(t *testing.T) {
	for _, c := range []struct {
		op   api.Op
		size int
		want uint32
	}{{api.OpSb, 1, 0xf8}, {api.OpSh, 2, 0xe7f8}, {api.OpSw, 4, 0xa5b6e7f8}} {
		for _, place := range []struct {
			a    uint32
			n    int32
			want uint32
		}{{100, 8, 108}, {100, -8, 92}, {0, -1, most}, {most, 1, 0}, {3, 0, 3}} {
			r := someRegs()
			r.R[2], r.R[3] = place.a, 0xa5b6e7f8
			want := r
			want.PC = r.PC + 4
			got := step(r, answers{word: wordOf(t, api.Instr{Op: c.op, A: 2, B: 3, Imm: place.n}), fetching: 6, moving: 20, value: 77})
			result := api.Result{Kind: api.Stepped, Cycles: 27}
			same(t, isa.Name(c.op), got, outcome{want, result, []call{fetchOf(r), {what: "store", at: place.want, size: c.size, v: c.want}}})
		}
	}
}

func TestBranches(t *testing.T) {
	for _, c := range []struct {
		a, b uint32
		goes [6]bool // beq bne blt bge bltu bgeu
	}{
		{5, 5, [6]bool{true, false, false, true, false, true}},
		{5, 6, [6]bool{false, true, true, false, true, false}},
		{6, 5, [6]bool{false, true, false, true, false, true}},
		{most, 0, [6]bool{false, true, true, false, false, true}},
		{0, most, [6]bool{false, true, false, true, true, false}},
		{least, least - 1, [6]bool{false, true, true, false, false, true}},
		{least - 1, least, [6]bool{false, true, false, true, true, false}},
		{most, most, [6]bool{true, false, false, true, false, true}},
	} {
		for n, goes := range c.goes {
			for _, imm := range []int32{0, 1, -1, 100, 1<<17 - 1, -1 << 17} {
				op := api.OpBeq + api.Op(n)
				r := someRegs()
				r.R[2], r.R[3] = c.a, c.b
				want := r
				want.PC = r.PC + 4
				if goes {
					want.PC = r.PC + 4*uint32(imm)
				}
				got := step(r, answers{word: wordOf(t, api.Instr{Op: op, A: 2, B: 3, Imm: imm}), fetching: 1})
				same(t, isa.Name(op), got, outcome{want, api.Result{Kind: api.Stepped, Cycles: 2}, []call{fetchOf(r)}})
			}
		}
	}
}

func TestJumps(t *testing.T) {
	for _, c := range []struct {
		i            api.Instr
		pc, a, to, d uint32
	}{
		{api.Instr{Op: api.OpJal, D: 15, Imm: 100}, 0x1000, 0, 0x1190, 0x1004},
		{api.Instr{Op: api.OpJal, D: 15, Imm: 0}, 0x1000, 0, 0x1000, 0x1004},
		{api.Instr{Op: api.OpJal, D: 15, Imm: -1 << 21}, 0, 0, most - 1<<23 + 1, 4},
		{api.Instr{Op: api.OpJal, D: 15, Imm: 1<<21 - 1}, most - 3, 0, 1<<23 - 8, 0},
		{api.Instr{Op: api.OpJalr, D: 15, A: 2, Imm: 8}, 0x1000, 0x5000, 0x5008, 0x1004},
		{api.Instr{Op: api.OpJalr, D: 15, A: 2, Imm: -1}, 0x1000, 0, most, 0x1004},
		{api.Instr{Op: api.OpJalr, D: 15, A: 2, Imm: 3}, most - 3, most, 2, 0},
		{api.Instr{Op: api.OpJalr, D: 2, A: 2, Imm: 8}, 0x1000, 0x5000, 0x5008, 0x1004},
	} {
		r := someRegs()
		r.PC, r.R[2] = c.pc, c.a
		want := r
		want.PC, want.R[c.i.D] = c.to, c.d
		got := step(r, answers{word: wordOf(t, c.i), fetching: 12})
		same(t, isa.Text(c.i), got, outcome{want, api.Result{Kind: api.Stepped, Cycles: 13}, []call{fetchOf(r)}})
	}
}

// TestNextPlace: the place behind the last one is 0.
func TestNextPlace(t *testing.T) {
	for pc, next := range map[uint32]uint32{most: 3, most - 3: 0, 1: 5} {
		r := someRegs()
		r.PC = pc
		if got := step(r, answers{word: wordOf(t, api.Instr{Op: api.OpNop})}); got.regs.PC != next {
			t.Errorf("nop at %d: PC %d", pc, got.regs.PC)
		}
	}
}

func TestSystem(t *testing.T) {
	for _, c := range []struct {
		i      api.Instr
		change func(*api.Regs)
		result api.Result
	}{
		{api.Instr{Op: api.OpHcall}, func(*api.Regs) {}, api.Result{Kind: api.Trapped}},
		{api.Instr{Op: api.OpHcall, Imm: 3}, func(*api.Regs) {}, api.Result{Kind: api.Trapped, Number: 3}},
		{api.Instr{Op: api.OpHcall, Imm: 1<<18 - 1}, func(*api.Regs) {}, api.Result{Kind: api.Trapped, Number: 1<<18 - 1}},
		{api.Instr{Op: api.OpWait}, func(*api.Regs) {}, api.Result{Kind: api.Waiting}},
		{api.Instr{Op: api.OpEi}, func(r *api.Regs) { r.On = true }, api.Result{Kind: api.Stepped}},
		{api.Instr{Op: api.OpDi}, func(r *api.Regs) { r.On = false }, api.Result{Kind: api.Stepped}},
		{api.Instr{Op: api.OpVec, A: 5}, func(r *api.Regs) { r.Vector = 0x05050505 }, api.Result{Kind: api.Stepped}},
		{api.Instr{Op: api.OpHalt}, func(r *api.Regs) { r.PC -= 4 }, api.Result{Kind: api.Halted}},
		{api.Instr{Op: api.OpNop}, func(*api.Regs) {}, api.Result{Kind: api.Stepped}},
	} {
		for _, on := range []bool{false, true} {
			r := someRegs()
			r.On, r.Handling = on, on
			want := r
			want.PC += 4
			c.change(&want)
			c.result.Cycles = 8
			got := step(r, answers{word: wordOf(t, c.i), fetching: 7, line: 3, there: true, clock: 5, value: 6})
			same(t, isa.Text(c.i), got, outcome{want, c.result, []call{fetchOf(r)}})
		}
	}
}

func TestClock(t *testing.T) {
	for _, now := range []uint64{0, 1, 1<<32 - 1, 1 << 32, 5<<32 + 9, math.MaxUint64} {
		r := someRegs()
		want := r
		want.PC, want.R[1] = r.PC+4, uint32(now)
		got := step(r, answers{word: wordOf(t, api.Instr{Op: api.OpClock, D: 1}), fetching: 7, clock: now})
		result := api.Result{Kind: api.Stepped, Cycles: 8, Read: true, Clock: now}
		same(t, "clock", got, outcome{want, result, []call{fetchOf(r), {what: "clock"}}})
	}
}
