package asm_test

import (
	"slices"
	"strings"
	"testing"

	"cloister/api"
	"cloister/asm"
	"cloister/isa"
)

func same(a, b api.Image) bool {
	return a.Origin == b.Origin && slices.Equal(a.Words, b.Words) && slices.Equal(a.Labels, b.Labels)
}

// wantImage of a source.
func wantImage(t *testing.T, source string, want api.Image) {
	t.Helper()
	if m, e, line := asm.Assemble(source); e != api.OK || line != 0 || !same(m, want) {
		t.Errorf("Assemble(%.80q) is %+v, %d, %d, want %+v", source, m, e, line, want)
	}
}

// wantWrong: an image of nothing, an error and its line.
func wantWrong(t *testing.T, source string, e api.Errno, line int) {
	t.Helper()
	m, got, at := asm.Assemble(source)
	if got != e || at != line || !same(m, api.Image{}) {
		t.Errorf("Assemble(%.80q) is %+v, %d, %d, want %d, %d", source, m, got, at, e, line)
	}
}

// wantRight: nothing is wrong with it.
func wantRight(t *testing.T, source string) {
	t.Helper()
	if m, e, line := asm.Assemble(source); e != api.OK || line != 0 {
		t.Errorf("Assemble(%.80q) is %+v, %d, %d", source, m, e, line)
	}
}

// wantTexts: a source comes to instructions, written as isa.Text does.
func wantTexts(t *testing.T, source string, texts ...string) {
	t.Helper()
	m, e, line := asm.Assemble(source)
	var got []string
	for _, w := range m.Words {
		i, _ := isa.Decode(w)
		got = append(got, isa.Text(i))
	}
	if e != api.OK || line != 0 || !slices.Equal(got, texts) {
		t.Errorf("Assemble(%.80q) is %q, %d, %d, want %q", source, got, e, line, texts)
	}
}

func lines(all ...string) string { return strings.Join(all, "\n") }

func TestExamples(t *testing.T) {
	loop := lines(".org 0x1000", "top: addi r1, r1, -1", "bne r1, r0, top", "halt")
	wantTexts(t, loop, "addi r1, r1, -1", "bne r1, r0, -1", "halt")
	wantImage(t, loop, api.Image{Origin: 0x1000, Words: []uint32{0x3847ffff, 0x8443ffff, 0xbc000000}, Labels: []api.Label{{Name: "top", At: 0x1000}}})
	wantTexts(t, "li r2, 0x12345678", "lui r2, 18641", "ori r2, r2, 5752")
	wantTexts(t, "li r2, -1", "lui r2, 262143", "ori r2, r2, 16383")
	wantTexts(t, "nop\ntop: lw r1, top(r0)", "nop", "lw r1, 4(r0)")
	wantTexts(t, ".org 0x1fffc\ntop: lw r1, top(r0)", "lw r1, 131068(r0)")
	wantWrong(t, ".org 0x20000\ntop: lw r1, top(r0)", api.ErrAsmRange, 2)
	wantWrong(t, "a: a: nop", api.ErrAsmTwice, 1)
	wantWrong(t, "add r1, r2", api.ErrAsmSyntax, 1)
	wantWrong(t, "add r1, r2, 5x", api.ErrAsmToken, 1)
	wantWrong(t, "j nowhere", api.ErrAsmName, 1)
	wantLine(t, 0x804bfffd, 16, "beq r1, r2, -3 # 0x00000004")
	wantLine(t, 0, 0, ".word 0x00000000")
}

func TestErrorNumbers(t *testing.T) {
	for n, e := range []api.Errno{api.ErrAsmLong, api.ErrAsmToken, api.ErrAsmSyntax, api.ErrAsmName, api.ErrAsmTwice, api.ErrAsmRange, api.ErrAsmArg} {
		if e != api.Errno(110+n) {
			t.Errorf("an error is %d, want %d", e, 110+n)
		}
	}
}

// TestLong: a source may have 20000 bytes, whatever they are; with more it is
// not looked at.
func TestLong(t *testing.T) {
	for _, c := range []string{" ", "\t", "#", "\n", "\xff", "a", "é"} {
		wantWrong(t, strings.Repeat(c, 20001), api.ErrAsmLong, 0)
		wantWrong(t, "@\n"+strings.Repeat(c, 19999), api.ErrAsmLong, 0)
	}
	for _, c := range []string{" ", "\t", "#", "\n"} {
		wantRight(t, strings.Repeat(c, 20000))
	}
	wantWrong(t, strings.Repeat("\n", 19999)+"@", api.ErrAsmToken, 20000)
	wantWrong(t, strings.Repeat("a", 20000), api.ErrAsmSyntax, 1)
	wantWrong(t, ".word "+strings.Repeat("9", 19994), api.ErrAsmRange, 1)
	wantImage(t, ".word 0x"+strings.Repeat("0", 19990)+"ff", api.Image{Words: []uint32{255}})
	wantWrong(t, strings.Repeat("nop\n", 4097), api.ErrAsmRange, 4097)
	wantWrong(t, ".word 1"+strings.Repeat(",1", 4096), api.ErrAsmRange, 1)
	wantWrong(t, ".word 1"+strings.Repeat(",1", 9995), api.ErrAsmRange, 1)
	wantWrong(t, strings.Repeat("li r1,1\n", 2049), api.ErrAsmRange, 2049)
}

// TestLines: they are counted from 1 on, and are parted by newlines alone.
func TestLines(t *testing.T) {
	wantImage(t, "", api.Image{})
	wantImage(t, "\n\n\n", api.Image{})
	wantWrong(t, "\n\n@", api.ErrAsmToken, 3)
	wantWrong(t, "nop\nnop\nnop nop\n@", api.ErrAsmSyntax, 3)
	wantWrong(t, "nop\r\nnop", api.ErrAsmToken, 1)
	wantWrong(t, "nop\vnop", api.ErrAsmToken, 1)
	wantWrong(t, "nop\u0085nop", api.ErrAsmToken, 1)
	wantWrong(t, "nop\u2028nop", api.ErrAsmToken, 1)
	wantWrong(t, "# a\n# b\nj c", api.ErrAsmName, 3)
}

// TestLabels stand in the order of the source, with the place of the next word.
func TestLabels(t *testing.T) {
	wantImage(t, lines(".org 8", "z: y:", "x: nop", "w: .zero 2", "v:", "u: .word 1, 2, 3", "t: .zero 0", "s: li r1, t", "r: q:"), api.Image{
		Origin: 8,
		Words:  []uint32{0xc0000000, 0, 0, 1, 2, 3, 0x5c400000, 0x40440020},
		Labels: []api.Label{{Name: "z", At: 8}, {Name: "y", At: 8}, {Name: "x", At: 8}, {Name: "w", At: 12}, {Name: "v", At: 20}, {Name: "u", At: 20}, {Name: "t", At: 32}, {Name: "s", At: 32}, {Name: "r", At: 40}, {Name: "q", At: 40}},
	})
	wantImage(t, ".zero 4096\nend:", api.Image{Words: make([]uint32, 4096), Labels: []api.Label{{Name: "end", At: 16384}}})
}

// TestStatementsAsLabels: whatever has a colon behind it is a label.
func TestStatementsAsLabels(t *testing.T) {
	words := []string{"li", "mv", "j", "call", "ret", "org", "word", "zero", "V", "N", "r", "R1", "r16", "r00", "r015", "r1_", "_", "__", "x0"}
	for op := api.OpAdd; op <= api.OpNop; op++ {
		words = append(words, isa.Name(op))
	}
	for _, w := range words {
		label := []api.Label{{Name: w, At: 4}}
		wantImage(t, "j "+w+"\n"+w+" \t: nop", api.Image{Words: []uint32{0x98000001, 0xc0000000}, Labels: label})
		wantImage(t, ".word "+w+"\n"+w+":", api.Image{Words: []uint32{4}, Labels: label})
	}
}
