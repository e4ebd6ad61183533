package asm_test

import (
	"fmt"
	"strings"
	"testing"

	"cloister/api"
)

// TestNumbers: which texts are numbers, and what they are.
func TestNumbers(t *testing.T) {
	for s, want := range map[string]uint32{
		"0": 0, "-0": 0, "1": 1, "-1": 0xffffffff, "10": 10, "4294967295": 0xffffffff, "2147483648": 1 << 31, "-2147483648": 1 << 31,
		"0x0": 0, "0x00": 0, "-0x0": 0, "0xff": 255, "0x00ff": 255, "-0x10": 0xfffffff0, "0xabcdef": 0xabcdef, "0x123456": 0x123456, "0x7890": 0x7890,
		"0xffffffff": 0xffffffff, "-0x80000000": 1 << 31, "0x000000000000000000000000000000000000ffffffff": 0xffffffff,
	} {
		wantImage(t, ".word "+s, api.Image{Words: []uint32{want}})
		wantImage(t, "\t.word\t"+s+" ,"+s+"#"+s, api.Image{Words: []uint32{want, want}})
	}
	for _, s := range []string{
		"00", "01", "-00", "-01", "007", "0x", "-0x", "0X1", "0xA", "0xF", "0xG", "0xg", "0x1F", "0x1G", "0x-1", "0x0x1", "0b1", "0o7", "0a",
		"5x", "5a", "5Z", "5_", "5.", "5.0", "5r1", "1e5", "1_000", "0_", "0.", "0x1_", "0x1.", "-", "--1", "- 1", "-\t1", "-a", "-_", "-.", "-r1", "-#1", "-,", "-(", "-:",
		"+1", "+", "1+1", "1é", "\x001", "1\x00", "１",
	} {
		wantWrong(t, ".word "+s, api.ErrAsmToken, 1)
		wantWrong(t, s, api.ErrAsmToken, 1)
		wantWrong(t, "\nnop\n.word 1, "+s+" # x", api.ErrAsmToken, 3)
	}
	// these are tokens, directly behind one another
	for _, s := range []string{"1-1", "0-0", "0x1-1", "1,-", "-1-1", "1(", "1)", "a-1", "1:1"} {
		e := api.ErrAsmSyntax
		if strings.HasSuffix(s, "-") {
			e = api.ErrAsmToken
		}
		wantWrong(t, ".word "+s, e, 1)
	}
}

// TestGreatNumbers: none wraps, of whatever length it is.
func TestGreatNumbers(t *testing.T) {
	for _, s := range []string{"4294967296", "4294967297", "18446744073709551616", "18446744073709551617", "0x100000000", "0x10000000000000000", "0x10000000000000004", "340282366920938463463374607431768211456"} {
		for _, sign := range []string{"", "-"} {
			for _, statement := range []string{".word %s", "li r1, %s", ".org %s", ".zero %s", "addi r1, r0, %s", "j %s", "shli r1, r1, %s", "hcall %s", "lw r1, %s(r0)"} {
				wantWrong(t, fmt.Sprintf(statement, sign+s), api.ErrAsmRange, 1)
			}
		}
	}
	for bits := 33; bits < 200; bits++ {
		for _, low := range []string{"0", "1", "4", "c"} {
			s := "0x" + fmt.Sprintf("%x", 1<<(bits%4)) + strings.Repeat("0", bits/4-1) + low
			wantWrong(t, ".word "+s, api.ErrAsmRange, 1)
			wantWrong(t, ".org "+s, api.ErrAsmRange, 1)
			wantWrong(t, ".zero "+s, api.ErrAsmRange, 1)
			wantWrong(t, ".word -"+s, api.ErrAsmRange, 1)
		}
	}
}

// TestBytes: each byte, alone in a line, behind a statement, in a comment.
func TestBytes(t *testing.T) {
	for c := range 256 {
		s := string([]byte{byte(c)})
		switch {
		case s == "\n" || s == " " || s == "\t" || s == "#":
			wantRight(t, s)
			wantRight(t, "nop"+s)
			wantRight(t, s+"nop")
		case s == ":":
			wantWrong(t, s, api.ErrAsmSyntax, 1)
			wantRight(t, "nop"+s)
		case strings.Contains("(),", s):
			wantWrong(t, s, api.ErrAsmSyntax, 1)
			wantWrong(t, "nop"+s, api.ErrAsmSyntax, 1)
		case tokenPattern.MatchString("_"+s+"_") && len(tokenPattern.FindString("_"+s+"_")) == 3:
			wantWrong(t, s, api.ErrAsmSyntax, 1)
			wantWrong(t, "nop"+s, api.ErrAsmSyntax, 1)
			wantWrong(t, "nop "+s, api.ErrAsmSyntax, 1)
		default:
			wantWrong(t, s, api.ErrAsmToken, 1)
			wantWrong(t, "nop"+s, api.ErrAsmToken, 1)
			wantWrong(t, "what is "+s, api.ErrAsmToken, 1)
		}
		if s != "\n" {
			wantRight(t, "nop #"+s)
			wantRight(t, "#"+s+s+"\nnop")
		}
	}
}

// TestNames: words that may be labels, and words that may not.
func TestNames(t *testing.T) {
	for _, s := range []string{"a", "Z", "_", "_1", "a1", "aB_9", "abcdefghijklmnop", "________________", "r", "r16", "r17", "r99", "r100", "r00", "r01", "r007", "r015", "R0", "R15", "rr1", "r1a", "r_1", "x15"} {
		wantImage(t, s+": .word "+s, api.Image{Words: []uint32{0}, Labels: []api.Label{{Name: s}}})
		wantRight(t, s+":j "+s)
	}
	bad := []string{".", ".a", "a.", "a.b", "abcdefghijklmnopq", "_________________", ".org", ".word", ".zero", "..", "abcdefghijklmno.", strings.Repeat("a", 300)}
	for n := range 16 {
		bad = append(bad, fmt.Sprint("r", n))
	}
	for _, s := range bad {
		wantWrong(t, s+":", api.ErrAsmSyntax, 1)
		wantWrong(t, "a: "+s+": nop", api.ErrAsmSyntax, 1)
		wantWrong(t, ".word "+s, api.ErrAsmSyntax, 1)
		wantWrong(t, "j "+s, api.ErrAsmSyntax, 1)
		wantWrong(t, "li r1, "+s, api.ErrAsmSyntax, 1)
		wantWrong(t, "lw r1, "+s+"(r0)", api.ErrAsmSyntax, 1)
	}
	wantRight(t, "a: A: b: B: aa: aA: Aa: AA:")
}

// TestRegisters: those, without noughts ahead, and no others.
func TestRegisters(t *testing.T) {
	for n := range 16 {
		r := fmt.Sprint("r", n)
		wantTexts(t, "mv "+r+", r1", "addi "+r+", r1, 0")
		wantTexts(t, "vec "+r, "vec "+r)
		wantTexts(t, "lw r1, 0("+r+")", "lw r1, 0("+r+")")
	}
	for _, s := range []string{"r", "r16", "r17", "r20", "r150", "r00", "r01", "r08", "r015", "R1", "R0", "r1.", "r.1", "x1", "sp", "1", "0", "-1", ",", "(", ")", "", "r256", "r1r", "r_1"} {
		wantWrong(t, "mv r1, "+s, api.ErrAsmSyntax, 1)
		wantWrong(t, "mv "+s+", r1", api.ErrAsmSyntax, 1)
		wantWrong(t, "vec "+s, api.ErrAsmSyntax, 1)
		wantWrong(t, "lw r1, 0("+s+")", api.ErrAsmSyntax, 1)
		wantWrong(t, "li "+s+", 0", api.ErrAsmSyntax, 1)
	}
	wantWrong(t, "vec r-1", api.ErrAsmSyntax, 1)
	wantWrong(t, "vec r 1", api.ErrAsmSyntax, 1)
}
