package asm_test

import (
	"fmt"
	"math/rand"
	"strings"
	"testing"

	"cloister/api"
	"cloister/asm"
	"cloister/isa"
)

// fill puts operands into a shape.
func fill(operands, d, a, b, v string) string {
	return strings.NewReplacer("D", d, "A", a, "B", b, "V", v).Replace(operands)
}

// TestShapes: each statement, with its operands as they must be, and with one
// too many, one too few, one of another kind, a sign that is another.
func TestShapes(t *testing.T) {
	all := modelShapes()
	if len(all) != 48+5 {
		t.Fatalf("there are %d shapes", len(all))
	}
	for _, s := range all {
		right := s.word + " " + fill(s.operands, "r1", "r2", "r3", "5")
		want, _, _ := modelAssemble(right)
		if len(want.Words) != len(s.texts) {
			t.Fatalf("the model makes %v of %q", want, right)
		}
		wantImage(t, right, want)
		wantImage(t, strings.ReplaceAll(right, " ", " \t "), want)
		for _, x := range []string{",", "(", ")", ":", "r1", "5", "a", "nop"} {
			holdModel(t, right+x+" ")
			holdModel(t, right+" "+x)
			wantWrong(t, right+", "+x, api.ErrAsmSyntax, 1)
		}
		tokens, _ := modelTokens(right)
		for n := range tokens {
			for _, x := range []string{"", ",", "(", ")", ":", "r4", "6", "b", ".c"} {
				holdModel(t, strings.Join(tokens[:n], " ")+" "+x+" "+strings.Join(tokens[n+1:], " "))
				holdModel(t, strings.Join(tokens[:n], " ")+" "+x+" "+strings.Join(tokens[n:], " "))
			}
		}
		wantWrong(t, strings.ToUpper(right), api.ErrAsmSyntax, 1)
		wantWrong(t, "."+right, api.ErrAsmSyntax, 1)
	}
}

// TestValues: each statement that takes a number, at the bounds of what it takes.
func TestValues(t *testing.T) {
	var near []int64
	for _, middle := range []int64{0, 31, 1 << 14, 1 << 17, 1 << 18, 1 << 21, 1 << 22, 1 << 26, 1 << 31, 1 << 32, 1 << 33} {
		for n := int64(-2); n <= 2; n++ {
			near = append(near, middle+n, -middle+n)
		}
	}
	for _, s := range modelShapes() {
		if !strings.Contains(s.operands, "V") {
			continue
		}
		for _, n := range near {
			holdModel(t, s.word+" "+fill(s.operands, "r15", "r14", "r13", fmt.Sprint(n)))
			if n >= 0 {
				holdModel(t, s.word+" "+fill(s.operands, "r0", "r1", "r2", fmt.Sprintf("0x%x", n)))
				holdModel(t, s.word+" "+fill(s.operands, "r0", "r1", "r2", fmt.Sprintf("-0x%x", n)))
			}
		}
	}
	for _, n := range near {
		holdModel(t, fmt.Sprint(".word ", n))
		holdModel(t, fmt.Sprint(".word 1, ", n, ", nowhere"))
		holdModel(t, fmt.Sprint(".zero ", n))
		holdModel(t, fmt.Sprint(".org ", n))
		holdModel(t, fmt.Sprint(".org ", n, "\na: nop\nb: lw r1, b(r0)"))
	}
}

// TestNamesAsValues: a label's place; or, where it is gone to, the words up to
// it, ahead and behind.
func TestNamesAsValues(t *testing.T) {
	for _, s := range modelShapes() {
		if !strings.Contains(s.operands, "V") {
			continue
		}
		statement := s.word + " " + fill(s.operands, "r1", "r2", "r3", "here")
		for _, origin := range []int64{0, 4, 28, 32, 0x1fff0, 0x1fffc, 0x20000, 0x3fffc, 0x40000, 0x7ffffc, 0x800000, 0x80000000, 0xffffffe0} {
			org := fmt.Sprint(".org ", origin)
			holdModel(t, lines(org, "here: "+statement))
			holdModel(t, lines(org, "here: nop", statement))
			holdModel(t, lines(org, statement, "here: nop"))
			holdModel(t, lines(org, statement, "nop", "nop", "here:"))
			holdModel(t, lines(org, "nop", "nop", "here:", "li r1, 0", statement))
		}
		wantWrong(t, lines("nop", "there: "+statement), api.ErrAsmName, 2)
		wantWrong(t, lines("nop", "Here: "+statement), api.ErrAsmName, 2)
	}
	wantTexts(t, lines("nop", "a: beq r1, r2, a", "bne r1, r2, a", "blt r1, r2, b", "j a", "call b", "jal r3, a", "b: jal r3, b"),
		"nop", "beq r1, r2, 0", "bne r1, r2, -1", "blt r1, r2, 4", "jal r0, -3", "jal r15, 2", "jal r3, -5", "jal r3, 0")
	wantTexts(t, lines("nop", "a: jalr r1, r2, a", "hcall a", "shli r1, r1, a", "ori r1, r1, a", "sw r1, a(r2)", "lui r1, a"),
		"nop", "jalr r1, r2, 4", "hcall 4", "shli r1, r1, 4", "ori r1, r1, 4", "sw r1, 4(r2)", "lui r1, 4")
	// as far as can be, in one image
	wantTexts(t, lines("j end", "end:"), "jal r0, 1")
	for _, s := range []string{"beq r0, r0, a", "j a", "call a"} {
		m, e, _ := asm.Assemble(lines("a:", ".zero 4095", s))
		i, _ := isa.Decode(m.Words[4095])
		if e != api.OK || i.Imm != -4095 {
			t.Errorf("%q at the end of an image is %v, %d", s, i, e)
		}
	}
	// a label's place is any of 32 bits
	wantImage(t, lines(".org 0xfffffff0", ".word a", "li r1, a", "a: nop"), api.Image{Origin: 0xfffffff0, Words: []uint32{0xfffffffc, 0x5c43ffff, 0x40443ffc, 0xc0000000}, Labels: []api.Label{{Name: "a", At: 0xfffffffc}}})
}

// TestLoads: li comes to any word of 32 bits.
func TestLoads(t *testing.T) {
	random := rand.New(rand.NewSource(1))
	for n := range 3000 {
		v := random.Uint32() >> (n % 33)
		d := n % 16
		texts := []string{fmt.Sprintf("lui r%d, %d", d, v/16384), fmt.Sprintf("ori r%d, r%d, %d", d, d, v%16384)}
		wantTexts(t, fmt.Sprintf("li r%d, %d", d, v), texts...)
		wantTexts(t, fmt.Sprintf("li r%d, 0x%x", d, v), texts...)
		if int32(v) < 0 {
			wantTexts(t, fmt.Sprintf("li r%d, %d", d, int32(v)), texts...)
		}
	}
}

// TestDirectives: words, zeros and the origin, as they may be.
func TestDirectives(t *testing.T) {
	wantImage(t, ".org 0", api.Image{})
	wantImage(t, ".org 4294967292", api.Image{Origin: 0xfffffffc})
	wantImage(t, "# x\n\n.zero 0\n.zero -0\n.org 0x10 # y\n.zero 1", api.Image{Origin: 16, Words: []uint32{0}})
	wantImage(t, ".word -2147483648,4294967295,-1 , 0,0xa", api.Image{Words: []uint32{1 << 31, 0xffffffff, 0xffffffff, 0, 10}})
	wantImage(t, ".zero 4096\n.zero 0", api.Image{Words: make([]uint32, 4096)})
	for _, s := range []string{".org", ".org a", ".org r1", ".org 0, 0", ".org 0 0", ".org ,", ".zero", ".zero a", ".zero r1", ".zero 1, 1", ".zero 1 1", ".word", ".word ,", ".word 1,", ".word ,1", ".word 1 1", ".word 1,,1", ".word r1", ".word 1, r1", ".word (1)", ".org: 0", ".word a:", ".byte 1", ".ORG 0", ".", "org 0", "word 1", "zero 1", "1", ",", ":", "a b", "a :b :c"} {
		wantWrong(t, s, api.ErrAsmSyntax, 1)
		wantWrong(t, "\n x: "+s, api.ErrAsmSyntax, 2)
	}
}
