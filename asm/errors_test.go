package asm_test

import (
	"strings"
	"testing"

	"cloister/api"
)

// TestOrigin: no label, no word and no other .org may be above it or ahead of it.
func TestOrigin(t *testing.T) {
	for _, above := range []string{"a:", "nop", ".word 1", ".zero 1", ".org 0", "li r1, 1", "ret", "a: b:"} {
		wantWrong(t, above+"\n.org 8", api.ErrAsmSyntax, 2)
		wantWrong(t, above+"\n\n# x\n.org 2", api.ErrAsmSyntax, 4)
	}
	wantWrong(t, "a: .org 8", api.ErrAsmSyntax, 1)
	wantWrong(t, "a: a: .org 8", api.ErrAsmSyntax, 1)
	wantWrong(t, "a: .org 2", api.ErrAsmSyntax, 1)
	wantWrong(t, "a:\na: .org 8", api.ErrAsmSyntax, 2)
	for _, n := range []string{"1", "2", "3", "5", "-4", "-1", "-0x4", "4294967293", "4294967294", "4294967295", "4294967296", "0xfffffffd", "0x100000000"} {
		wantWrong(t, "\n.org "+n, api.ErrAsmRange, 2)
	}
}

// TestRoom: at most 4096 words, wherever the last of them come from.
func TestRoom(t *testing.T) {
	for _, s := range []string{"nop", ".word 1", ".zero 1", "mv r1, r1", "j 0", "call 0", "ret"} {
		wantRight(t, ".zero 4095\n"+s)
		wantWrong(t, ".zero 4096\n"+s, api.ErrAsmRange, 2)
		wantWrong(t, ".zero 4096\n"+s+"\n@", api.ErrAsmRange, 2)
	}
	wantRight(t, ".zero 4094\nli r1, 1")
	wantWrong(t, ".zero 4095\nli r1, 1", api.ErrAsmRange, 2)
	wantWrong(t, ".zero 4094\n.word 1, 2, 3", api.ErrAsmRange, 2)
	wantWrong(t, ".zero 1\n.zero 4096", api.ErrAsmRange, 2)
	wantWrong(t, "\n.zero 4097", api.ErrAsmRange, 2)
	wantWrong(t, "\n.zero -1", api.ErrAsmRange, 2)
	wantRight(t, ".word 1"+strings.Repeat(",1", 4095))
}

// TestPlaces: none of a word or of a label is above 4294967295.
func TestPlaces(t *testing.T) {
	wantRight(t, lines(".org 0xfffffffc", "a: nop"))
	wantRight(t, lines(".org 0xfffffffc", "a:"))
	wantRight(t, lines(".org 0xfffffffc", "nop", ".zero 0", "", "# x"))
	wantRight(t, lines(".org 0xfffffff8", "li r1, 1"))
	wantRight(t, lines(".org 0xffffc000", ".zero 4096"))
	wantWrong(t, lines(".org 0xfffffffc", "nop", "nop"), api.ErrAsmRange, 3)
	wantWrong(t, lines(".org 0xfffffffc", "nop", "a:"), api.ErrAsmRange, 3)
	wantWrong(t, lines(".org 0xfffffffc", "nop", "a: .zero 0"), api.ErrAsmRange, 3)
	wantWrong(t, lines(".org 0xfffffffc", ".word 1, 2"), api.ErrAsmRange, 2)
	wantWrong(t, lines(".org 0xfffffffc", "li r1, 1"), api.ErrAsmRange, 2)
	wantWrong(t, lines(".org 0xffffc004", ".zero 4096"), api.ErrAsmRange, 2)
	wantWrong(t, lines(".org 0xffffc000", ".zero 4096", "a:"), api.ErrAsmRange, 3)
}

// TestFirstError: of one line that which is named first; of several lines the
// first one; and names and values only when all lines are right so far.
func TestFirstError(t *testing.T) {
	// a token ahead of all
	wantWrong(t, "a: a: what .zero 5000 @", api.ErrAsmToken, 1)
	wantWrong(t, "nop nop\n@", api.ErrAsmSyntax, 1)
	// the form ahead of labels that stand twice
	wantWrong(t, "a:\na: what", api.ErrAsmSyntax, 2)
	wantWrong(t, "a: a: add r1", api.ErrAsmSyntax, 1)
	wantWrong(t, "a: a: r1:", api.ErrAsmSyntax, 1)
	wantWrong(t, "a: a: nop nop", api.ErrAsmSyntax, 1)
	wantWrong(t, "a: a:\nwhat", api.ErrAsmTwice, 1)
	// labels that stand twice ahead of what may not be
	wantWrong(t, "a:\na: .zero 5000", api.ErrAsmTwice, 2)
	wantWrong(t, ".zero 4096\na: a: nop", api.ErrAsmTwice, 2)
	wantWrong(t, lines(".org 0xfffffffc", "a: nop", "b: a:"), api.ErrAsmTwice, 3)
	wantWrong(t, lines(".org 0xfffffffc", "a: nop", "b: c: nop"), api.ErrAsmRange, 3)
	wantWrong(t, ".zero 5000\na: a:", api.ErrAsmRange, 1)
	// all that ahead of names and values, on whichever line
	wantWrong(t, "j nowhere\naddi r1, r1, 131072\n@", api.ErrAsmToken, 3)
	wantWrong(t, "j nowhere\nwhat", api.ErrAsmSyntax, 2)
	wantWrong(t, "j nowhere\na: a:", api.ErrAsmTwice, 2)
	wantWrong(t, "addi r1, r1, 131072\n.zero 5000", api.ErrAsmRange, 2)
	// and of these the first one
	wantWrong(t, "addi r1, r1, 131072\nj nowhere", api.ErrAsmRange, 1)
	wantWrong(t, "j nowhere\naddi r1, r1, 131072", api.ErrAsmName, 1)
	wantWrong(t, ".word 1, nowhere, 4294967296", api.ErrAsmName, 1)
	wantWrong(t, ".word 1, 4294967296, nowhere", api.ErrAsmRange, 1)
	wantWrong(t, "\n\n.zero 3\nnop\nli r1, nowhere\nj nowhere", api.ErrAsmName, 5)
	wantWrong(t, "\nli r1, -2147483649\nj nowhere", api.ErrAsmRange, 2)
}

// TestTwice: above, or ahead in the line; names that differ in letters' size
// are two.
func TestTwice(t *testing.T) {
	wantWrong(t, "a: b: a:", api.ErrAsmTwice, 1)
	wantWrong(t, "a:\nb:\nnop\nb: nop", api.ErrAsmTwice, 4)
	wantWrong(t, "abcdefghijklmnop:\nabcdefghijklmnop:", api.ErrAsmTwice, 2)
	wantRight(t, "a: A:\naa:")
	wantRight(t, "abcdefghijklmnoq:\nabcdefghijklmnop:")
	wantRight(t, "a: nop # a:\n# a:")
}
