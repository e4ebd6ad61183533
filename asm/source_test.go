package asm_test

import (
	"fmt"
	"slices"
	"strings"
	"testing"

	"cloister/api"
	"cloister/asm"
	"cloister/isa"
)

func wantLine(t *testing.T, word, at uint32, want string) {
	t.Helper()
	if s := asm.Line(word, at); s != want {
		t.Errorf("Line(%08x, %08x) is %q, want %q", word, at, s, want)
	}
}

func wantSource(t *testing.T, m api.Image, want string) {
	t.Helper()
	if s, e := asm.Disassemble(m); s != want || e != api.OK {
		t.Errorf("Disassemble(%+v) is %q, %d, want %q", m, s, e, want)
	}
}

func wantNoSource(t *testing.T, m api.Image, want api.Errno) {
	t.Helper()
	if s, e := asm.Disassemble(m); s != "" || e != want {
		t.Errorf("Disassemble of %x, %d words, %+v is %.80q, %d, want %d", m.Origin, len(m.Words), m.Labels, s, e, want)
	}
}

// lineOf is what Line should write.
func lineOf(word, at uint32) string {
	i, e := isa.Decode(word)
	name, _, _ := strings.Cut(isa.Text(i), " ")
	switch {
	case e != api.OK:
		return fmt.Sprintf(".word 0x%08x", word)
	case slices.Contains(strings.Fields("beq bne blt bge bltu bgeu jal"), name):
		return fmt.Sprintf("%s # 0x%08x", isa.Text(i), uint32(uint64(int64(at)+4*int64(i.Imm))))
	}
	return isa.Text(i)
}

func TestLine(t *testing.T) {
	wantLine(t, 0x9bc00064, 0xfffffff0, "jal r15, 100 # 0x00000180")
	wantLine(t, 0x98200000, 0, "jal r0, -2097152 # 0xff800000")
	wantLine(t, 0x981fffff, 4, "jal r0, 2097151 # 0x00800000")
	wantLine(t, 0x80020000, 0, "beq r0, r0, -131072 # 0xfff80000")
	wantLine(t, 0x80000000, 3, "beq r0, r0, 0 # 0x00000003")
	wantLine(t, 0x9c3c0000, 16, "jalr r0, r15, 0")
	wantLine(t, 0xa0000003, 16, "hcall 3")
	wantLine(t, 0xc0000001, 0, ".word 0xc0000001")
	wantLine(t, 0x48400020, 0, ".word 0x48400020")
	wantLine(t, 0xffffffff, 0xffffffff, ".word 0xffffffff")
	for op := range uint32(64) {
		for bit := range 26 {
			for _, at := range []uint32{0, 4, 7, 0x1000, 1 << 31, 0xfffffffc, 0xffffffff} {
				for _, w := range []uint32{op << 26, op<<26 | 1<<bit, op<<26 | 0x3ffffff&^(1<<bit)} {
					wantLine(t, w, at, lineOf(w, at))
				}
			}
		}
	}
}

func TestSources(t *testing.T) {
	wantSource(t, api.Image{}, ".org 0x00000000\n")
	wantSource(t, api.Image{Origin: 0xfffffffc}, ".org 0xfffffffc\n")
	wantSource(t, api.Image{Origin: 0xabcdef00, Labels: []api.Label{{Name: "b", At: 0xabcdef00}, {Name: "a", At: 0xabcdef00}}}, ".org 0xabcdef00\nb:\na:\n")
	wantSource(t, api.Image{Origin: 0x1000, Words: []uint32{0x3847ffff, 0x8443ffff, 0, 0xbc000000}, Labels: []api.Label{{Name: "top", At: 0x1000}, {Name: "b", At: 0x100c}, {Name: "a", At: 0x100c}, {Name: "end", At: 0x1010}, {Name: "nop", At: 0x1010}}},
		".org 0x00001000\ntop:\n\taddi r1, r1, -1\n\tbne r1, r0, -1 # 0x00001000\n\t.word 0x00000000\nb:\na:\n\thalt\nend:\nnop:\n")
	wantSource(t, api.Image{Origin: 0xfffffffc, Words: []uint32{0x98000002}, Labels: []api.Label{{Name: "z", At: 0xfffffffc}}}, ".org 0xfffffffc\nz:\n\tjal r0, 2 # 0x00000004\n")
}

// TestNoWords: which origins and words may not be.
func TestNoWords(t *testing.T) {
	for _, origin := range []uint32{1, 2, 3, 5, 0x1002, 0xfffffffd, 0xfffffffe, 0xffffffff} {
		wantNoSource(t, api.Image{Origin: origin}, api.ErrAsmArg)
		wantNoSource(t, api.Image{Origin: origin, Words: []uint32{0}}, api.ErrAsmArg)
	}
	ei := uint32(43 << 26)
	wantNoSource(t, api.Image{Words: slices.Repeat([]uint32{ei}, 4097)}, api.ErrAsmArg)
	wantNoSource(t, api.Image{Words: make([]uint32, 1<<20)}, api.ErrAsmArg)
	wantSource(t, api.Image{Words: slices.Repeat([]uint32{ei}, 4096)}, ".org 0x00000000\n"+strings.Repeat("\tei\n", 4096))
	for n := range uint32(300) {
		origin := -(4*n + 4)
		words := slices.Repeat([]uint32{ei}, int(n+1))
		source := strings.Repeat("\tei\n", int(n+1))
		wantSource(t, api.Image{Origin: origin, Words: words}, fmt.Sprintf(".org 0x%08x\n", origin)+source)
		wantNoSource(t, api.Image{Origin: origin, Words: append(words, ei)}, api.ErrAsmArg)
		wantNoSource(t, api.Image{Origin: origin, Words: append(words, ei, ei)}, api.ErrAsmArg)
	}
	wantSource(t, api.Image{Origin: 0xffffc000, Words: slices.Repeat([]uint32{ei}, 4096)}, ".org 0xffffc000\n"+strings.Repeat("\tei\n", 4096))
	wantNoSource(t, api.Image{Origin: 0xffffc004, Words: slices.Repeat([]uint32{ei}, 4096)}, api.ErrAsmArg)
}

// TestNoLabels: which names and places of labels may not be.
func TestNoLabels(t *testing.T) {
	image := func(labels ...api.Label) api.Image {
		return api.Image{Origin: 0x100, Words: []uint32{1, 2}, Labels: labels}
	}
	for _, name := range []string{"", "r0", "r9", "r10", "r15", "a.b", ".", ".a", "a.", "9", "9a", "a b", " a", "a ", "a:", "a-b", "a\n", "\x00", "é", "aé", "a\xff", "a#", "abcdefghijklmnopq", strings.Repeat("x", 1<<16)} {
		wantNoSource(t, image(api.Label{Name: name, At: 0x100}), api.ErrAsmArg)
		wantNoSource(t, image(api.Label{Name: "ok", At: 0x100}, api.Label{Name: name, At: 0x108}), api.ErrAsmArg)
	}
	for _, name := range []string{"a", "_", "r16", "r00", "r", "R1", "nop", "li", "abcdefghijklmnop"} {
		for at := uint32(0); at < 0x200; at++ {
			if at%4 == 0 && at >= 0x100 && at <= 0x108 {
				if s, e := asm.Disassemble(image(api.Label{Name: name, At: at})); e != api.OK || !strings.Contains(s, "\n"+name+":\n") {
					t.Errorf("a label %q at %x: %q, %d", name, at, s, e)
				}
			} else {
				wantNoSource(t, image(api.Label{Name: name, At: at}), api.ErrAsmArg)
			}
		}
		wantNoSource(t, image(api.Label{Name: name, At: 0xfffffffc}), api.ErrAsmArg)
		wantNoSource(t, image(api.Label{Name: name, At: 0x100}, api.Label{Name: name, At: 0x100}), api.ErrAsmArg)
		wantNoSource(t, image(api.Label{Name: name, At: 0x100}, api.Label{Name: "b", At: 0x104}, api.Label{Name: name, At: 0x108}), api.ErrAsmArg)
	}
	wantNoSource(t, image(api.Label{Name: "a", At: 0x104}, api.Label{Name: "b", At: 0x100}), api.ErrAsmArg)
	wantNoSource(t, image(api.Label{Name: "a", At: 0x108}, api.Label{Name: "b", At: 0x104}), api.ErrAsmArg)
	// at the end of all places nothing is above
	top := api.Image{Origin: 0xfffffffc, Words: []uint32{0}}
	for _, at := range []uint32{0, 4, 0xfffffff8} {
		top.Labels = []api.Label{{Name: "a", At: at}}
		wantNoSource(t, top, api.ErrAsmArg)
	}
	wantNoSource(t, api.Image{Labels: []api.Label{{Name: "a", At: 4}}}, api.ErrAsmArg)
}

// TestLongSources: 20000 bytes may be, one more not; and what may not be at all
// is told ahead of that.
func TestLongSources(t *testing.T) {
	zero := len("\t.word 0x00000000\n")
	count := (20000 - len(".org 0x00000000\n")) / zero
	left := 20000 - len(".org 0x00000000\n") - count*zero
	m := api.Image{Words: make([]uint32, count)}
	for n, name := 0, "abcdefghijklmnop"; left > 0; n++ {
		size := min(left-2, 14)
		if left-size-2 < 3 && left-size-2 > 0 {
			size -= 3
		}
		m.Labels = append(m.Labels, api.Label{Name: name[n:n+1] + strings.Repeat("x", size-1), At: 0})
		left -= size + 2
	}
	s, e := asm.Disassemble(m)
	if len(s) != 20000 || e != api.OK {
		t.Fatalf("a source has %d bytes, %d", len(s), e)
	}
	wantImage(t, s, m)
	m.Labels[0].Name += "y"
	wantNoSource(t, m, api.ErrAsmLong)
	m.Labels[0].Name = "r1"
	wantNoSource(t, m, api.ErrAsmArg)
	wantNoSource(t, api.Image{Words: make([]uint32, 4096)}, api.ErrAsmLong)
	wantNoSource(t, api.Image{Words: make([]uint32, 4097)}, api.ErrAsmArg)
	var many []api.Label
	for n := range 100000 {
		many = append(many, api.Label{Name: fmt.Sprint("n", n)})
	}
	wantNoSource(t, api.Image{Labels: many}, api.ErrAsmLong)
	many[99999].Name = "n5"
	wantNoSource(t, api.Image{Labels: many}, api.ErrAsmArg)
}
