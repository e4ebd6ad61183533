package asm_test

import (
	"fmt"
	"math/rand"
	"slices"
	"strings"
	"testing"

	"cloister/api"
	"cloister/asm"
	"cloister/isa"
)

// holdModel asks that a source comes to what the model makes of it.
func holdModel(t *testing.T, source string) {
	t.Helper()
	want, e, line := modelAssemble(source)
	m, got, at := asm.Assemble(source)
	if got != e || at != line || !same(m, want) {
		t.Errorf("Assemble(%q) is %+v, %d, %d, want %+v, %d, %d", source, m, got, at, want, e, line)
	}
}

func oneOf(random *rand.Rand, all ...string) string { return all[random.Intn(len(all))] }

func anyRegister(random *rand.Rand) string { return fmt.Sprint("r", random.Intn(16)) }

func anyValue(random *rand.Rand) string {
	switch random.Intn(6) {
	case 0:
		return oneOf(random, "a", "b", "c", "d", "e")
	case 1:
		return oneOf(random, "131071", "131072", "-131072", "-131073", "262143", "262144", "2097151", "2097152", "4294967295", "4294967296", "-2147483648", "-2147483649", "31", "32", "-1", "4096", "4097")
	case 2:
		return fmt.Sprintf("0x%x", random.Uint64()>>random.Intn(64))
	}
	return fmt.Sprint(random.Intn(64) - 16)
}

// anyStatement is mostly right.
func anyStatement(random *rand.Rand, all []shape) string {
	switch random.Intn(12) {
	case 0:
		return ".zero " + oneOf(random, "0", "1", "2", "100", "2000", "4096", anyValue(random))
	case 1:
		return ".word " + anyValue(random) + strings.Repeat(" , "+anyValue(random), random.Intn(4))
	case 2:
		return oneOf(random, "", "", "a: b:", "what", ".org 8", "ret ret", "nop a", "a:")
	}
	s := all[random.Intn(len(all))]
	return s.word + " " + fill(s.operands, anyRegister(random), anyRegister(random), anyRegister(random), anyValue(random))
}

// anySource has labels and statements; most of them are right.
func anySource(random *rand.Rand, all []shape) string {
	var text []string
	if random.Intn(2) == 0 {
		text = append(text, ".org "+oneOf(random, "0", "0x1000", "0x1fff0", "0xfffffff0", "4294967292", "0xffffc000", anyValue(random)))
	}
	labels := random.Perm(5)
	for range random.Intn(8) {
		line := anyStatement(random, all)
		if len(labels) > 0 && random.Intn(2) == 0 {
			line = "abcde"[labels[0]:labels[0]+1] + ": " + line
			labels = labels[1:]
		}
		text = append(text, line+oneOf(random, "", "", " ", "\t# x", "#:,(@"))
	}
	for len(labels) > 0 && random.Intn(4) > 0 {
		text = append(text, "abcde"[labels[0]:labels[0]+1]+":")
		labels = labels[1:]
	}
	return lines(text...)
}

// spoil changes some bytes.
func spoil(random *rand.Rand, source string) string {
	for range 1 + random.Intn(2) {
		at := random.Intn(len(source) + 1)
		rest := source[at:]
		if len(rest) > 0 && random.Intn(3) > 0 {
			rest = rest[1:]
		}
		source = source[:at] + oneOf(random, "", " ", ",", ":", "(", ")", "-", "0", "1", "x", "r", "r1", ".", "_", "a", "#", "\n", "\t", "@", "\x00", "é", "0x", "nop", ".org 0\n") + rest
	}
	return source
}

// TestAnySource: whatever it is, it comes to what the model makes of it.
func TestAnySource(t *testing.T) {
	random, all := rand.New(rand.NewSource(2)), modelShapes()
	count := map[api.Errno]int{}
	for range 15000 {
		source := anySource(random, all)
		holdModel(t, source)
		holdModel(t, spoil(random, source))
		_, e, _ := asm.Assemble(source)
		count[e]++
	}
	for _, e := range []api.Errno{api.OK, api.ErrAsmSyntax, api.ErrAsmName, api.ErrAsmTwice, api.ErrAsmRange} {
		if count[e] < 100 {
			t.Errorf("only %d sources come to %d", count[e], e)
		}
	}
}

// TestAnyBytes: a source of any bytes is read to its end.
func TestAnyBytes(t *testing.T) {
	random := rand.New(rand.NewSource(3))
	for range 20000 {
		b := make([]byte, random.Intn(40))
		for n := range b {
			b[n] = "ar01x9.-_,:()# \t\nnopjliret\x00\xc3\xa9"[random.Intn(29)]
		}
		holdModel(t, string(b))
	}
}

// anyImage may be disassembled.
func anyImage(random *rand.Rand) api.Image {
	m := api.Image{Origin: random.Uint32() &^ 3 >> random.Intn(30) &^ 3}
	if random.Intn(4) == 0 {
		m.Origin = -uint32(4+random.Intn(40)) &^ 3
	}
	room := min((1<<32-int64(m.Origin))/4, int64(random.Intn(60)))
	at := m.Origin
	for n := range random.Intn(int(room) + 1) {
		m.Words = append(m.Words, anyWord(random))
		at = m.Origin + 4*uint32(n)
		for random.Intn(4) == 0 {
			m.Labels = append(m.Labels, api.Label{Name: anyName(random, len(m.Labels)), At: at})
		}
	}
	if behind := int64(m.Origin) + 4*int64(len(m.Words)); behind < 1<<32 {
		for random.Intn(3) == 0 {
			m.Labels = append(m.Labels, api.Label{Name: anyName(random, len(m.Labels)), At: uint32(behind)})
		}
	}
	return m
}

func anyName(random *rand.Rand, n int) string {
	return oneOf(random, "a", "_", "nop", "r_", "Rx", "li", "org", "abcdefghijk") + fmt.Sprint("_", n)
}

func anyWord(random *rand.Rand) uint32 {
	for random.Intn(4) > 0 {
		if w := random.Uint32()%49<<26 | random.Uint32()>>(6+random.Intn(26)); textOf(w) != "" {
			return w
		}
		if w := random.Uint32() % 49 << 26; textOf(w) != "" {
			return w
		}
	}
	return random.Uint32() >> random.Intn(32)
}

func textOf(w uint32) string {
	i, _ := isa.Decode(w)
	return isa.Text(i)
}

// TestComesBack: T8: what is disassembled assembles to the same.
func TestComesBack(t *testing.T) {
	random := rand.New(rand.NewSource(4))
	for range 20000 {
		m := anyImage(random)
		s, e := asm.Disassemble(m)
		if e != api.OK {
			t.Fatalf("Disassemble(%+v) is %d", m, e)
		}
		wantImage(t, s, m)
		if want := modelSource(m); s != want {
			t.Fatalf("Disassemble(%+v) is %q, want %q", m, s, want)
		}
	}
	for op := range uint32(64) {
		for bit := range 26 {
			w := op<<26 | 1<<bit
			wantImage(t, asm.Line(w, 64), api.Image{Words: []uint32{w}})
			wantImage(t, "\t"+asm.Line(^w, 0)+"\n", api.Image{Words: []uint32{^w}})
		}
	}
}

// modelSource is what Disassemble should write.
func modelSource(m api.Image) string {
	var b strings.Builder
	fmt.Fprintf(&b, ".org 0x%08x\n", m.Origin)
	labelsAt := func(at int64) {
		for _, l := range m.Labels {
			if int64(l.At) == at {
				fmt.Fprintf(&b, "%s:\n", l.Name)
			}
		}
	}
	for n, w := range m.Words {
		at := int64(m.Origin) + 4*int64(n)
		labelsAt(at)
		fmt.Fprintf(&b, "\t%s\n", lineOf(w, uint32(at)))
	}
	labelsAt(int64(m.Origin) + 4*int64(len(m.Words)))
	return b.String()
}

// TestAssembledComesBack: an image that was assembled can be disassembled, if
// that is not too long, and comes back.
func TestAssembledComesBack(t *testing.T) {
	random, all := rand.New(rand.NewSource(5)), modelShapes()
	for range 5000 {
		m, e, _ := asm.Assemble(anySource(random, all))
		if e != api.OK {
			continue
		}
		s, e := asm.Disassemble(m)
		if e == api.ErrAsmLong && len(modelSource(m)) > 20000 {
			continue
		}
		if e != api.OK {
			t.Fatalf("Disassemble(%+v) is %d", m, e)
		}
		wantImage(t, s, m)
	}
}

// dressed puts comments, blanks and empty lines into a source; it tells which
// line each line is now.
func dressed(random *rand.Rand, source string) (string, []int) {
	var text []string
	var at []int
	for _, line := range strings.Split(source, "\n") {
		for random.Intn(3) == 0 {
			text = append(text, oneOf(random, "", " ", "\t", "# @", "  #a: nop", "#"))
		}
		if tokens, ok := modelTokens(line); ok {
			line = strings.Join(tokens, oneOf(random, " ", "\t", " \t  "))
		}
		text = append(text, oneOf(random, "", " ", "\t\t")+line+oneOf(random, "", " ", " # b: @", "#"))
		at = append(at, len(text))
	}
	return lines(text...), at
}

// TestBlanks: comments, blanks, lines that say nothing change nothing but the
// error's line.
func TestBlanks(t *testing.T) {
	random, all := rand.New(rand.NewSource(6)), modelShapes()
	for range 5000 {
		source := anySource(random, all)
		m, e, line := asm.Assemble(source)
		other, at := dressed(random, source)
		if line > 0 {
			line = at[line-1]
		}
		n, wrong, where := asm.Assemble(other)
		if wrong != e || where != line || !same(m, n) {
			t.Fatalf("%q comes to %+v, %d; %q to %+v, %d, %d, want line %d", source, m, e, other, n, wrong, where, line)
		}
	}
}

// TestOtherNames: how labels are called does not matter.
func TestOtherNames(t *testing.T) {
	random, all := rand.New(rand.NewSource(7)), modelShapes()
	names := map[string]string{"a": "nop", "b": "abcdefghijklmnop", "c": "r16", "d": "_", "e": "j"}
	for range 5000 {
		source := anySource(random, all)
		var text []string
		for _, line := range strings.Split(source, "\n") {
			tokens, _ := modelTokens(line)
			for n, token := range tokens {
				if other, there := names[token]; there {
					tokens[n] = other
				}
			}
			text = append(text, strings.Join(tokens, " "))
		}
		m, e, line := asm.Assemble(source)
		n, wrong, where := asm.Assemble(lines(text...))
		for i := range m.Labels {
			m.Labels[i].Name = names[m.Labels[i].Name]
		}
		if wrong != e || where != line || !same(m, n) {
			t.Fatalf("%q comes to %+v, %d, %d; %q to %+v, %d, %d", source, m, e, line, lines(text...), n, wrong, where)
		}
	}
}

// TestLists: those that are handed in stay as they are, with their spare room;
// those that come out are the caller's own.
func TestLists(t *testing.T) {
	words := []uint32{0xc0000000, 1, 77, 78}
	labels := []api.Label{{Name: "a"}, {Name: "b", At: 8}, {Name: "spare", At: 99}}
	m := api.Image{Words: words[:2], Labels: labels[:2]}
	s, e := asm.Disassemble(m)
	if e != api.OK || !slices.Equal(words, []uint32{0xc0000000, 1, 77, 78}) || !slices.Equal(labels, []api.Label{{Name: "a"}, {Name: "b", At: 8}, {Name: "spare", At: 99}}) {
		t.Errorf("lists that were handed in are %v, %v, %d", words, labels, e)
	}
	one, _, _ := asm.Assemble(s)
	two, _, _ := asm.Assemble(s)
	for i := range one.Words[:cap(one.Words)] {
		one.Words[:cap(one.Words)][i] = 5
	}
	for i := range one.Labels[:cap(one.Labels)] {
		one.Labels[:cap(one.Labels)][i] = api.Label{Name: "z", At: 5}
	}
	if !same(two, m) {
		t.Errorf("what came out is changed by what was done to another: %+v", two)
	}
	wantImage(t, s, m)
}

// TestSameAgain: what is told hangs on nothing that was asked before.
func TestSameAgain(t *testing.T) {
	random, all := rand.New(rand.NewSource(8)), modelShapes()
	source := "a: li r1, b\nj a\nb:"
	want, _, _ := asm.Assemble(source)
	for range 2000 {
		asm.Assemble(spoil(random, anySource(random, all)))
		asm.Disassemble(anyImage(random))
		wantImage(t, source, want)
		wantWrong(t, "nop\nj b", api.ErrAsmName, 2)
	}
	if i, _ := isa.Decode(want.Words[2]); i.Imm != -2 {
		t.Errorf("%v", i)
	}
}
