package isa_test

import (
	"fmt"
	"strconv"
	"strings"
	"testing"

	"cloister/api"
	"cloister/isa"
)

const numberOfOps = 48

// kind is what is known of an op, in plain words: its form's bits from the
// highest on (each D, A, B or I of a field, and - where there is nothing), the
// Imm that it takes, and how its operands are written.
type kind struct {
	name  string
	form  api.Form
	bits  string
	takes string
	text  string
}

// bitsOf a form, behind the op's six.
func bitsOf(f api.Form) string {
	d, a, b := "DDDD", "AAAA", "BBBB"
	rest := map[api.Form]string{
		api.FormDAB:  d + a + b,
		api.FormDAI:  d + a + strings.Repeat("I", 18),
		api.FormABI:  a + b + strings.Repeat("I", 18),
		api.FormDI:   d + strings.Repeat("I", 22),
		api.FormD:    d,
		api.FormA:    a,
		api.FormI:    strings.Repeat("I", 26),
		api.FormNone: "",
	}[f]
	return rest + strings.Repeat("-", 26-len(rest))
}

// kinds are those of all ops, by their numbers; 0 has none.
func kinds() []kind {
	all := make([]kind, 1)
	add := func(names string, f api.Form, takes, text string) {
		for _, name := range strings.Fields(names) {
			all = append(all, kind{name, f, bitsOf(f), takes, text})
		}
	}
	add("add sub mul divu remu and or xor shl shr sar slt sltu", api.FormDAB, "", " rD, rA, rB")
	add("addi", api.FormDAI, "S", " rD, rA, I")
	add("andi ori xori", api.FormDAI, "U", " rD, rA, I")
	add("shli shri sari", api.FormDAI, "N", " rD, rA, I")
	add("slti sltui", api.FormDAI, "S", " rD, rA, I")
	add("lui", api.FormDI, "U", " rD, I")
	add("lb lbu lh lhu lw", api.FormDAI, "S", " rD, I(rA)")
	add("sb sh sw", api.FormABI, "S", " rB, I(rA)")
	add("beq bne blt bge bltu bgeu", api.FormABI, "S", " rA, rB, I")
	add("jal", api.FormDI, "S", " rD, I")
	add("jalr", api.FormDAI, "S", " rD, rA, I")
	add("hcall", api.FormI, "U", " I")
	add("clock", api.FormD, "", " rD")
	add("wait ei di eret", api.FormNone, "", "")
	add("vec", api.FormA, "", " rA")
	add("halt nop", api.FormNone, "", "")
	return all
}

func (k kind) has(field string) bool { return strings.Contains(k.bits, field) }

// bounds of the Imm that it takes.
func (k kind) bounds() (int64, int64) {
	switch n := strings.Count(k.bits, "I"); k.takes {
	case "S":
		return -(int64(1) << (n - 1)), int64(1)<<(n-1) - 1
	case "U":
		return 0, 262143
	case "N":
		return 0, 31
	}
	return 0, 0
}

func (k kind) registersMayBe(i api.Instr) bool {
	for field, r := range map[string]uint8{"D": i.D, "A": i.A, "B": i.B} {
		if r > 15 || r > 0 && !k.has(field) {
			return false
		}
	}
	return true
}

// wrong tells what is wrong with an instruction.
func wrong(all []kind, i api.Instr) api.Errno {
	if i.Op < 1 || i.Op > numberOfOps {
		return api.ErrIsaOp
	}
	k := all[i.Op]
	if !k.registersMayBe(i) {
		return api.ErrIsaReg
	}
	if least, most := k.bounds(); int64(i.Imm) < least || int64(i.Imm) > most {
		return api.ErrIsaImm
	}
	return api.OK
}

// field writes a number into those bits that bear its letter.
func field(bits, letter string, v int64) string {
	n := strings.Count(bits, letter)
	if n == 0 {
		return bits
	}
	all := fmt.Sprintf("%064b", uint64(v))
	return strings.Replace(bits, strings.Repeat(letter, n), all[64-n:], 1)
}

// word of an instruction that may be, written as noughts and ones.
func word(all []kind, i api.Instr) uint32 {
	k := all[i.Op]
	s := field(k.bits, "D", int64(i.D))
	s = field(s, "A", int64(i.A))
	s = field(s, "B", int64(i.B))
	s = field(s, "I", int64(i.Imm))
	s = fmt.Sprintf("%06b", int(i.Op)) + strings.ReplaceAll(s, "-", "0")
	w, err := strconv.ParseUint(s, 2, 32)
	if err != nil || len(s) != 32 {
		panic(s)
	}
	return uint32(w)
}

// read tells the instruction of a word, and what is wrong with it.
func read(all []kind, w uint32) (api.Instr, api.Errno) {
	s := fmt.Sprintf("%032b", w)
	op, _ := strconv.ParseInt(s[:6], 2, 64)
	if op < 1 || op > numberOfOps {
		return api.Instr{}, api.ErrIsaOp
	}
	k, parts := all[op], map[rune]string{}
	for n, letter := range k.bits {
		parts[letter] += s[6+n : 7+n]
	}
	if strings.Contains(parts['-'], "1") {
		return api.Instr{}, api.ErrIsaBits
	}
	number := func(letter rune) int64 {
		v, _ := strconv.ParseInt("0"+parts[letter], 2, 64)
		return v
	}
	v := number('I')
	if k.takes == "S" && parts['I'][0] == '1' {
		v -= int64(1) << len(parts['I'])
	}
	if least, most := k.bounds(); v < least || v > most {
		return api.Instr{}, api.ErrIsaImm
	}
	return api.Instr{Op: api.Op(op), D: uint8(number('D')), A: uint8(number('A')), B: uint8(number('B')), Imm: int32(v)}, api.OK
}

// text of an instruction.
func text(all []kind, i api.Instr) string {
	if wrong(all, i) != api.OK {
		return ""
	}
	k := all[i.Op]
	return k.name + strings.NewReplacer("D", fmt.Sprint(i.D), "A", fmt.Sprint(i.A), "B", fmt.Sprint(i.B), "I", fmt.Sprint(i.Imm)).Replace(k.text)
}

// uses of an instruction: what it reads, and what it writes.
func uses(all []kind, i api.Instr) (uint16, uint16) {
	if wrong(all, i) != api.OK {
		return 0, 0
	}
	k, sets := all[i.Op], [2]map[uint8]int{{}, {}}
	if k.has("A") {
		sets[0][i.A]++
	}
	if k.has("B") {
		sets[0][i.B]++
	}
	if k.has("D") {
		sets[1][i.D]++
	}
	if k.name == "hcall" {
		sets = [2]map[uint8]int{{1: 1, 2: 1, 3: 1, 4: 1, 5: 1, 6: 1}, {1: 1, 2: 1, 3: 1}}
	}
	var told [2]uint16
	for n, set := range sets {
		for r := range set {
			if r > 0 {
				told[n] += 1 << r
			}
		}
	}
	return told[0], told[1]
}

// hold asks all that is told of an instruction.
func hold(t *testing.T, all []kind, i api.Instr) {
	t.Helper()
	e := wrong(all, i)
	var w uint32
	if e == api.OK {
		w = word(all, i)
		wantDecode(t, w, i, api.OK)
	}
	wantEncode(t, i, w, e)
	wantText(t, i, text(all, i))
	reads, writes := uses(all, i)
	wantUses(t, i, reads, writes)
}

// holdWord asks all that is told of a word.
func holdWord(t *testing.T, all []kind, w uint32) {
	t.Helper()
	i, e := read(all, w)
	wantDecode(t, w, i, e)
	if e == api.OK {
		wantEncode(t, i, w, api.OK)
	}
}

func wantEncode(t *testing.T, i api.Instr, w uint32, e api.Errno) {
	t.Helper()
	if got, wrong := isa.Encode(i); got != w || wrong != e {
		t.Errorf("Encode(%v) is %08x, %d, want %08x, %d", i, got, wrong, w, e)
	}
}

func wantDecode(t *testing.T, w uint32, i api.Instr, e api.Errno) {
	t.Helper()
	if got, wrong := isa.Decode(w); got != i || wrong != e {
		t.Errorf("Decode(%08x) is %v, %d, want %v, %d", w, got, wrong, i, e)
	}
}

func wantText(t *testing.T, i api.Instr, s string) {
	t.Helper()
	if got := isa.Text(i); got != s {
		t.Errorf("Text(%v) is %q, want %q", i, got, s)
	}
}

func wantUses(t *testing.T, i api.Instr, reads, writes uint16) {
	t.Helper()
	if r, w := isa.Uses(i); r != reads || w != writes {
		t.Errorf("Uses(%v) are %04x, %04x, want %04x, %04x", i, r, w, reads, writes)
	}
}

func wantOp(t *testing.T, op api.Op, form api.Form, name string) {
	t.Helper()
	if got := isa.Form(op); got != form {
		t.Errorf("Form(%d) is %d, want %d", op, got, form)
	}
	if got := isa.Name(op); got != name {
		t.Errorf("Name(%d) is %q, want %q", op, got, name)
	}
}

func wantNamed(t *testing.T, s string, op api.Op, ok bool) {
	t.Helper()
	if got, there := isa.Named(s); got != op || there != ok {
		t.Errorf("Named(%q) is %d, %v, want %d, %v", s, got, there, op, ok)
	}
}
