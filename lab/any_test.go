package lab_test

import (
	"fmt"
	"math/rand"
	"strings"
	"testing"

	"cloister/api"
	"cloister/lab"
)

// holdModel asks that a script comes to what the model makes of it.
func holdModel(t *testing.T, s string) (string, api.Errno) {
	t.Helper()
	want, line, e := modelRun(s)
	told, at, got := lab.Run(s)
	if told != want || at != line || got != e {
		t.Fatalf("Run(%q) = %q, %d, %d, want %q, %d, %d", s, told, at, got, want, line, e)
	}
	return told, e
}

func oneOf(random *rand.Rand, all ...string) string { return all[random.Intn(len(all))] }

// anyDeck is mostly one that can be booted.
func anyDeck(random *rand.Rand) string {
	all := []string{pair, pair, quiet, loser, eight(), clockwork(50), clockwork(900), said(30)}
	if random.Intn(6) == 0 {
		all = []string{"", "what\n", "\n\ncell a 0 0\n", "cell a 0\ncell b 0\nsample a 4 b\n", "cache 70000 1 1\n", quiet + "data a 0x4fff 0102\n", "cell a 0\ncode a\n.zero 4000\nend\n", "#\xff\x00\n", "pages\x00\n", " %%\n", pair + "pages 16\n", strings.Replace(quiet, "0 1000", "0 99", 1)}
	}
	return decked(all[random.Intn(len(all))])
}

func anyNumber(random *rand.Rand) string {
	return oneOf(random, "0", "1", "2", "1", "2", "3", "8", "9", "9223372036854775807", fmt.Sprint(random.Int63()>>random.Intn(63)))
}

// anyTick is not far from others.
func anyTick(random *rand.Rand) string {
	return oneOf(random, "0", "1", fmt.Sprint(random.Intn(500)), fmt.Sprint(random.Intn(5000)), fmt.Sprint(random.Intn(5000)), fmt.Sprint(random.Intn(20000)), fmt.Sprint(random.Intn(20000)), fmt.Sprint(random.Intn(110000)), fmt.Sprint(1000000000+random.Intn(2000)), "9223372036854775807")
}

func anyName(random *rand.Rand) string { return oneOf(random, "a", "a", "b", "x9", "0") }

func anyLine(random *rand.Rand) string {
	number := func() string { return anyNumber(random) }
	switch random.Intn(24) {
	case 0, 1:
		return "boot"
	case 2, 3:
		return "irq " + anyTick(random) + " " + oneOf(random, "0", "3", "3", "3", "31", "32")
	case 4, 5, 6, 7:
		return "run " + anyTick(random)
	case 8, 9:
		return "save " + anyName(random)
	case 10, 11:
		return "load " + anyName(random)
	case 12:
		return "keep " + anyName(random)
	case 13:
		return "now"
	case 14:
		return "trace " + number()
	case 15, 16:
		return "digest " + number()
	case 17:
		return "regs " + number()
	case 18:
		return "peek " + number() + " " + oneOf(random, "00004000", "00004100", "00004ffe", "000040f0", "ffffffff", fmt.Sprintf("%08x", random.Uint32())) + " " + oneOf(random, "0", "1", "2", "16", "1024", "1025", number())
	case 19:
		return "stat " + number()
	case 20, 21:
		return "part " + number() + " " + anyName(random)
	case 22:
		return "sources " + number()
	}
	return oneOf(random, "print", "", "# what", "   ")
}

// anyScript has a few decks, and many lines behind each.
func anyScript(random *rand.Rand) string {
	s := ""
	for range 1 + random.Intn(4) {
		if random.Intn(15) > 0 {
			s += anyDeck(random)
			if random.Intn(8) > 0 {
				s += "boot\n"
			}
		}
		for range random.Intn(30) {
			line := anyLine(random)
			if random.Intn(10) == 0 {
				line = " " + strings.ReplaceAll(line, " ", "   ") + "  "
			}
			s += line + "\n"
		}
	}
	return s
}

// spoil changes some bytes.
func spoil(random *rand.Rand, s string) string {
	at := random.Intn(len(s) + 1)
	rest := s[at:]
	if len(rest) > 0 && random.Intn(3) > 0 {
		rest = rest[1:]
	}
	return s[:at] + oneOf(random, "", " ", "\t", "\n", "#", "0", "a", "A", "-", "\x00", "\r", "é", "%%", "\n%%\n", "\ndeck\n", "deck", "now\n", "99999999999999999999") + rest
}

// TestAnyScript: whatever it is, it comes to what the model makes of it.
func TestAnyScript(t *testing.T) {
	random := rand.New(rand.NewSource(2501))
	count := map[string]int{}
	for range 300 {
		s := anyScript(random)
		told, e := holdModel(t, s)
		count[fmt.Sprint("code ", int(e))]++
		for _, l := range strings.Split(told, "\n") {
			if words := strings.Fields(l); len(words) > 0 {
				if words[0] == "error" {
					words[0] += " " + words[1]
				}
				count[words[0]]++
			}
		}
		_, e = holdModel(t, spoil(random, s))
		count[fmt.Sprint("code ", int(e))]++
	}
	for _, w := range strings.Split("ok,none,now,trace,digest,regs,=,stat,part,sources,print,error 130,error 140,error 149,error 190,error 210,error 211,error 241,error 242,error 244,error 250,code 0,code 251", ",") {
		if count[w] < 3 {
			t.Errorf("only %d times %q", count[w], w)
		}
	}
}

// TestAnyBytes: a script of any bytes is read to its end.
func TestAnyBytes(t *testing.T) {
	const letters = " now\nrun 015abc#%\n \ndeckirq2savepart"
	random := rand.New(rand.NewSource(2502))
	for range 20000 {
		b := make([]byte, random.Intn(40))
		random.Read(b)
		holdModel(t, string(b))
		for n := range b {
			b[n] = letters[random.Intn(len(letters))]
		}
		holdModel(t, string(b))
		holdModel(t, "now\n"+oneOf(random, rights...)+string(b))
		holdModel(t, "deck\n"+string(b)+"\n%%\n"+oneOf(random, "now", "print", "what"))
	}
}

// TestOneByteChanged: each byte of a script, to each other one.
func TestOneByteChanged(t *testing.T) {
	const s = "deck\ncell a 0\n%%\nrun 1\n# x\npeek 1 0000af09 2\npart 10 z9\n print "
	for at := range s {
		for c := range 256 {
			holdModel(t, s[:at]+string([]byte{byte(c)})+s[at+1:])
		}
		holdModel(t, s[:at])
		holdModel(t, s[at:])
		holdModel(t, s[:at]+s[at+1:])
	}
}
