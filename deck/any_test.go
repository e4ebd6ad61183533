package deck_test

import (
	"fmt"
	"math/rand"
	"strings"
	"testing"

	"cloister/api"
	"cloister/config"
	"cloister/deck"
)

// holdModel asks that a deck comes to what the model makes of it.
func holdModel(t *testing.T, s string) api.Errno {
	t.Helper()
	g, l, e, line := modelParse(s)
	h, k, got, at := deck.Parse(s)
	if got != e || at != line || !config.Equal(g, h) || !sameLoads(l, k) {
		t.Fatalf("Parse(%q) = %+v, %+v, %d, %d, want %+v, %+v, %d, %d", s, h, k, got, at, g, l, e, line)
	}
	return e
}

func oneOf(random *rand.Rand, all ...string) string { return all[random.Intn(len(all))] }

// anyWord is mostly one of this kind.
func anyWord(random *rand.Rand, kind string) string {
	if random.Intn(60) == 0 {
		return oneOf(random, "", "a", "04", "0x", "-", "0X1", "1 2", "z", "a-b", "4294967296", "18446744073709551616", "0x100000000", "wr", "0", "00", "0a0", "both", "flow", "abcdefghijklmnopq")
	}
	switch kind {
	case "N":
		return oneOf(random, "0", "1", "4294967295", fmt.Sprint(random.Uint32()>>random.Intn(32)), fmt.Sprintf("0x%x", random.Uint32()>>random.Intn(32)), fmt.Sprintf("0x%012x", random.Uint32()))
	case "T":
		return oneOf(random, "0", "18446744073709551615", fmt.Sprint(random.Uint64()>>random.Intn(64)), fmt.Sprintf("0x%x", random.Uint64()>>random.Intn(64)))
	case "NAME":
		return oneOf(random, "a", "b", "c", "A1", "end", "7", fmt.Sprint("n", random.Intn(1000)), fmt.Sprint("n", random.Intn(1000)), "abcdefghijklmnop")
	case "CELL":
		return oneOf(random, "a", "b", "a", "b", "a", "b", "a", "b", "a", "b", "c")
	case "PERM":
		return oneOf(random, "-", "r", "w", "x", "rw", "rx", "wx", "rwx")
	case "KIND":
		return oneOf(random, "flow", "oneway")
	}
	b := make([]byte, 1+random.Intn(20))
	random.Read(b)
	return fmt.Sprintf("%x", b)
}

// anySource is lines of a program; most of them assemble.
func anySource(random *rand.Rand) string {
	s := ""
	for range random.Intn(4) {
		s += oneOf(random, "nop", "  halt # x", "", "#", "li r1, 0x12345678", "add r1, r2, r3", ".word 7, -1", ".zero 3", "\tj 4", "nop") + "\n"
	}
	if random.Intn(12) == 0 {
		s += oneOf(random, "what", "j nowhere", "x: x:", "pages 4", "\x00", ".zero 4097", "end nop", "#\xff") + "\n"
	}
	return s + oneOf(random, "end", "end", "end", "end", " end # x", "\tend", "end#", "ends")
}

// anyLine is mostly right.
func anyLine(random *rand.Rand, firsts []string) string {
	first := firsts[random.Intn(len(firsts))]
	words := []string{first}
	for _, kind := range strings.Fields(forms[first]) {
		n := 1
		if kind, _ = strings.CutSuffix(kind, "*"); strings.HasSuffix(forms[first], kind+"*") && len(words) >= len(strings.Fields(forms[first])) {
			n = random.Intn(4)
		}
		for range n {
			words = append(words, anyWord(random, kind))
		}
	}
	switch random.Intn(80) {
	case 0:
		words = words[:random.Intn(len(words)+1)]
	case 1:
		words = append(words, anyWord(random, oneOf(random, "N", "CELL", "HEX")))
	case 2:
		words[0] = oneOf(random, "end", "what", "Pages", "cells")
	case 3:
		words = append(words, oneOf(random, "\x00", "\r", "é", "\x7f", "#\x00"))
	}
	line := strings.Join(words, " ")
	if first == "code" {
		line += "\n" + anySource(random)
	}
	return line
}

// anyDeck has some lines, and mostly two cells ahead of these; few of them are
// wrong.
func anyDeck(random *rand.Rand) string {
	once := []string{"pages", "own", "cache", "tlb", "major"}
	often := []string{"cell", "range", "lines", "window", "sample", "queue", "data", "data", "more", "more", "code"}
	var text []string
	if random.Intn(20) > 0 {
		text = append(text, "cell a 0", "cell b 4")
	}
	for range random.Intn(12) {
		if len(once) > 0 && random.Intn(4) == 0 {
			text = append(text, anyLine(random, once[:1]))
			if random.Intn(15) > 0 {
				once = once[1:]
			}
			continue
		}
		text = append(text, anyLine(random, often))
	}
	return strings.Join(text, "\n") + oneOf(random, "", "\n")
}

// spoil changes some bytes.
func spoil(random *rand.Rand, s string) string {
	for range 1 + random.Intn(2) {
		at := random.Intn(len(s) + 1)
		rest := s[at:]
		if len(rest) > 0 && random.Intn(3) > 0 {
			rest = rest[1:]
		}
		s = s[:at] + oneOf(random, "", " ", "\t", "\n", "#", "0", "a", "x", "-", "f", "\x00", "\r", "é", "end", "\nend\n", "code a\n", "cell c 0\n", "more 00\n", "0x", "99999999999") + rest
	}
	return s
}

// TestAnyDeck: whatever it is, it comes to what the model makes of it.
func TestAnyDeck(t *testing.T) {
	random := rand.New(rand.NewSource(2401))
	count := map[api.Errno]int{}
	for range 20000 {
		s := anyDeck(random)
		count[holdModel(t, s)]++
		holdModel(t, spoil(random, s))
	}
	for _, e := range []api.Errno{api.OK, api.ErrDeckToken, api.ErrDeckSyntax, api.ErrDeckName, api.ErrDeckTwice, api.ErrDeckRange, api.ErrDeckSource} {
		if count[e] < 100 {
			t.Errorf("only %d decks come to %d", count[e], e)
		}
	}
	if count[api.OK] < 5000 {
		t.Errorf("only %d decks are read", count[api.OK])
	}
}

// TestAnyBytes: a deck of any bytes is read to its end.
func TestAnyBytes(t *testing.T) {
	random := rand.New(rand.NewSource(2402))
	for range 30000 {
		b := make([]byte, random.Intn(60))
		random.Read(b)
		holdModel(t, string(b))
		for n := range b {
			b[n] = "acel l 01xrw-#\t\nnopagesmored\x00\xc3\xa9\r"[random.Intn(32)]
		}
		holdModel(t, string(b))
		holdModel(t, "cell a 0\ncode a\n"+string(b)+"\nend\n"+string(b))
	}
}

// TestOneByteChanged: each byte of a deck, to each other one.
func TestOneByteChanged(t *testing.T) {
	const s = "tlb 9\ncell a 0x1f # x\nlines 1 2\ndata a 7 0a\nmore 00\ncode a\nnop\nend\n"
	for at := range s {
		for c := range 256 {
			holdModel(t, s[:at]+string([]byte{byte(c)})+s[at+1:])
		}
		holdModel(t, s[:at])
		holdModel(t, s[at:])
		holdModel(t, s[:at]+s[at+1:])
	}
}

// anyConfig may be printed; most of its numbers are small.
func anyConfig(random *rand.Rand) (api.Config, []api.Load) {
	n := func() int { return int(random.Uint32() >> random.Intn(32)) }
	a := func() uint32 { return random.Uint32() >> random.Intn(32) }
	t := func() uint64 { return random.Uint64() >> random.Intn(64) }
	g := api.Config{Pages: n(), OwnBase: a(), OwnPages: n(), Shape: api.Shape{Sets: n(), Ways: n(), Line: n()}, Slots: n(), Major: t()}
	for i := range random.Intn(6) {
		c := api.Cell{Name: fmt.Sprint(oneOf(random, "a", "end", "Z", "0"), i), Entry: a()}
		for range random.Intn(4) {
			c.Ranges = append(c.Ranges, api.Range{Virtual: a(), Physical: a(), Pages: n(), Perm: api.Perm(random.Intn(8))})
		}
		for range random.Intn(4) {
			c.Lines = append(c.Lines, n())
		}
		g.Cells = append(g.Cells, c)
	}
	if len(g.Cells) == 0 {
		return g, nil
	}
	cell := func() int { return 1 + random.Intn(len(g.Cells)) }
	for range random.Intn(5) {
		g.Windows = append(g.Windows, api.Window{Cell: cell(), Start: t(), Length: t()})
	}
	for range random.Intn(4) {
		p := api.Sample{Writer: cell(), Size: n()}
		for range random.Intn(4) {
			p.Readers = append(p.Readers, cell())
		}
		g.Samples = append(g.Samples, p)
	}
	for range random.Intn(4) {
		g.Queues = append(g.Queues, api.Queue{Writer: cell(), Reader: cell(), Size: n(), Depth: n(), Quota: n(), Flow: random.Intn(2) == 0})
	}
	var loads []api.Load
	for range random.Intn(4) {
		l := api.Load{Cell: cell(), At: a(), Data: make([]byte, random.Intn(70))}
		random.Read(l.Data)
		loads = append(loads, l)
	}
	return g, loads
}
