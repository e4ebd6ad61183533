package trace_test

import (
	"math/big"
	"math/rand"
	"regexp"
	"slices"
	"strconv"
	"strings"
	"testing"

	"cloister/api"
	"cloister/trace"
)

// TestTextOfAny: Text is as the chapter says, and Parse of it what was written.
func TestTextOfAny(t *testing.T) {
	random := rand.New(rand.NewSource(224))
	for range 2000 {
		l := anyList(random, random.Intn(12))
		s := textOf(l...)
		wantText(t, s, l...)
		wantParse(t, s, l...)
		wantParse(t, strings.TrimSuffix(s, "\n"), l...)
	}
	wantText(t, "")
}

// TestLinesThatTellNothing: and blanks.
func TestLinesThatTellNothing(t *testing.T) {
	one := api.Obs{Tick: 7, Cell: 2, Kind: api.ObsSay, PC: 16, A: 5}
	two := api.Obs{Tick: 8, Cell: 3, Kind: api.ObsHalt, PC: 20}
	for _, s := range []string{"", "\n", "\n\n\n", " ", "    ", "  \n ", "#", "  #", "#x", "# 1 1 halt", "#\x00\xff\t\r", "   ## \n#\n"} {
		wantParse(t, s)
	}
	for _, s := range []string{
		"7 2 say 00000010 00000005\n8 3 halt 00000014",
		"7 2 say 00000010 00000005\n8 3 halt 00000014\n",
		"7 2 say 00000010 00000005\n8 3 halt 00000014\n\n  \n",
		"   7   2 say  00000010     00000005   \n 8 3 halt 00000014 ",
		"\n# first\n7 2 say 00000010 00000005\n\n   # then\n8 3 halt 00000014\n#",
		"#7 2 say 00000010 00000005\n7 2 say 00000010 00000005\n  #8\n8 3 halt 00000014\n# x",
	} {
		wantParse(t, s, one, two)
	}
}

// TestLinesThatAreNone: each by itself, and behind others, which are counted
// also where they tell nothing.
func TestLinesThatAreNone(t *testing.T) {
	ahead := map[string]int{"": 1, "\n": 2, "# x\n\n  \n": 4, "1 1 halt 00000000\n": 2, "1 1 halt 00000000\n#\n1 8 irq ffffffff 31\n": 4}
	for _, s := range noLines() {
		for a, n := range ahead {
			wantNoText(t, a+s, n)
			wantNoText(t, a+s+"\n", n)
			wantNoText(t, a+s+"\n1 1 halt 00000000\nand another\n", n)
			wantNoText(t, a+"  "+s+"  ", n)
		}
	}
}

func noLines() []string {
	l := []string{
		// too few words, or too many
		"1", "1 1", "1 1 halt", "x", "1 1 load 00000000", "1 1 load 00000000 00000000", "1 1 call 00000000 00000000",
		"1 1 fault 00000000", "1 1 fault 00000000 align", "1 1 irq 00000000", "1 1 clock 00000000", "1 1 say 00000000",
		"1 1 load 00000000 00000000 00000000 00000000", "1 1 call 00000000 00000000 00000000 0", "1 1 fault 00000000 align 00000000 00000000",
		"1 1 irq 00000000 1 1", "1 1 irq 00000000 1 0", "1 1 clock 00000000 0000000000000000 0", "1 1 clock 00000000 00000000 00000000",
		"1 1 halt 00000000 00000000", "1 1 halt 00000000 0", "1 1 say 00000000 00000000 00000000", "1 1 halt 00000000 # so", "1 1 halt 00000000 #", "1 # 1 halt 00000000",
		// words of kinds
		"1 1 Halt 00000000", "1 1 HALT 00000000", "1 1 hal 00000000", "1 1 halts 00000000", "1 1 6 00000000", "1 1 stop 00000000", "1 1 halt00000000", "1 halt 00000000 00000000",
		"1 1 \x00 00000000", "1 1 - 00000000",
		// bytes that are no blanks
		"1\t1 halt 00000000", "1 1 halt 00000000\r", "\t1 1 halt 00000000", "1 1 halt 00000000\t", "\r", "\t", "\v", "\f# x", "\u00a0", "\ufeff1 1 halt 00000000",
		"1\u00a01 halt 00000000", "1 1 halt 00000000\u2003", "1\x001 halt 00000000", "1 1 halt 0000000\xff", "\xff", "1 1\x85halt 00000000",
		// clocks beyond
		"1 1 clock 00000000 8000000000000000", "1 1 clock 00000000 ffffffffffffffff",
	}
	for _, s := range []string{"0", "9", "10", "11", "-1", "255", "256", "257", "4294967297", "18446744073709551617", "99999999999999999999999999999999999999"} {
		l = append(l, "1 "+s+" halt 00000000")
	}
	for _, s := range []string{"9223372036854775808", "9223372036854775809", "18446744073709551615", "18446744073709551616", "18446744073709551617", "340282366920938463463374607431768211457"} {
		l = append(l, s+" 1 halt 00000000", "1 "+s+" halt 00000000", "1 1 irq 00000000 "+s)
	}
	for _, s := range []string{"00", "01", "07", "007", "+1", "-1", "-0", "1.0", "1e0", "0x1", "0b1", "0o1", "1_0", "a", "f", "1a", "1,", "\u0661", "1\x00", "'1'", ".", "_"} {
		l = append(l, s+" 1 halt 00000000", "1 "+s+" halt 00000000", "1 1 irq 00000000 "+s)
	}
	for _, s := range []string{"32", "33", "99", "100", "256", "4294967295", "4294967296", "4294967297", "0000001f", "1f"} {
		l = append(l, "1 1 irq 00000000 "+s)
	}
	for _, s := range []string{"0", "1", "6", "none", "Align", "alig", "aligned", "outsid", "00000001", "-", "load", "unmapped,"} {
		l = append(l, "1 1 fault 00000000 "+s+" 00000000")
	}
	l = append(l, "1 1 fault 00000000 00000000 align")
	for _, s := range []string{"0", "0000000", "000000000", "0000000A", "0000000g", "0x000000", "+0000000", "-0000001", "0000_000", "0000000.", "0000000\x00", "0000000\u0661", "ABCDEF01", "0000000000000000", "abcdef0", "0abcdef01", "________"} {
		l = append(l, "1 1 halt "+s, "1 1 say 00000000 "+s, "1 1 load 00000000 "+s+" 00000000", "1 1 load 00000000 00000000 "+s,
			"1 1 call 00000000 "+s+" 00000000", "1 1 call 00000000 00000000 "+s, "1 1 fault 00000000 denied "+s, "1 1 load "+s+" 00000000 00000000")
	}
	for _, s := range []string{"0", "00000000", "000000000000000", "00000000000000000", "000000000000000A", "0x00000000000000", "+000000000000000", "0000000_00000000", "000000000000000g", "10000000000000000", "00000000000000000000000000000000"} {
		l = append(l, "1 1 clock 00000000 "+s)
	}
	return l
}

// TestFirstLineThatIsNone: there may be others behind it.
func TestFirstLineThatIsNone(t *testing.T) {
	random := rand.New(rand.NewSource(225))
	for range 1000 {
		l := anyList(random, 1+random.Intn(30))
		lines := strings.SplitAfter(textOf(l...), "\n")
		at := random.Intn(len(l))
		lines[at] = "0" + lines[at]
		wantNoText(t, strings.Join(lines, ""), at+1)
		lines[random.Intn(len(l))] = "one that is none\n"
		s := strings.Join(lines, "")
		first := slices.IndexFunc(lines, func(s string) bool { return s == "one that is none\n" || s[0] == '0' && s[1] != ' ' })
		wantNoText(t, s, first+1)
	}
}

// shapes of lines, by their kinds: words with one blank between.
var shapes = func() []*regexp.Regexp {
	const w, n = "([0-9a-f]{8})", "(0|[1-9][0-9]*)"
	behind := []string{1: " " + w + " " + w, 2: " " + w + " " + w, 3: " (align|outside|unmapped|malformed|denied|illegal) " + w, 4: " " + n, 5: " " + w + w, 6: "", 7: " " + w}
	l := make([]*regexp.Regexp, len(behind))
	for kind := 1; kind < len(l); kind++ {
		l[kind] = regexp.MustCompile("^" + n + " " + n + " " + kinds[kind] + " " + w + behind[kind] + "$")
	}
	return l
}()

func great(s string) *big.Int {
	n, _ := new(big.Int).SetString(s, 10)
	return n
}

// fits is a number, if it is at most so much; else one beyond it.
func fits(s string, most int64) uint64 {
	if n := great(s); n.Cmp(big.NewInt(most)) <= 0 {
		return n.Uint64()
	}
	return uint64(most) + 1
}

func word(s string) uint32 {
	n, _ := strconv.ParseUint(s, 16, 32)
	return uint32(n)
}

// parsed is what a line tells, by patterns.
func parsed(s string) (api.Obs, bool) {
	s = strings.Trim(regexp.MustCompile(" +").ReplaceAllString(s, " "), " ")
	for kind, shape := range shapes {
		if kind == 0 {
			continue
		}
		m := shape.FindStringSubmatch(s)
		if m == nil {
			continue
		}
		o := api.Obs{Tick: fits(m[1], api.MaxTick), Cell: int(fits(m[2], 8)), Kind: api.ObsKind(kind), PC: word(m[3])}
		switch o.Kind {
		case api.ObsLoad, api.ObsCall:
			o.A, o.B = word(m[4]), word(m[5])
		case api.ObsFault:
			o.A, o.B = uint32(slices.Index(faults, m[4])), word(m[5])
		case api.ObsIrq:
			o.A = uint32(fits(m[4], 31))
		case api.ObsClock:
			o.A, o.B = word(m[5]), word(m[4])
		case api.ObsSay:
			o.A = word(m[4])
		}
		return o, mayBe(o)
	}
	return api.Obs{}, false
}

// parsedAll is what all lines tell, or the first one that is none.
func parsedAll(s string) (l []api.Obs, line int) {
	for i, text := range strings.Split(s, "\n") {
		if words := strings.Trim(text, " "); words == "" || words[0] == '#' {
			continue
		}
		o, ok := parsed(text)
		if !ok {
			return nil, i + 1
		}
		l = append(l, o)
	}
	return l, 0
}

// twisted is a text in which something was changed.
func twisted(random *rand.Rand, s string) string {
	at := random.Intn(len(s) + 1)
	switch random.Intn(5) {
	case 0: // something is put in
		return s[:at] + pick(random, " ", "  ", "\n", "#", "# ", "0", "1", "a", "f", "g", "F", "\t", "\r", "\x00", "-", "halt", " 00000000", "9223372036854775807", string([]byte{byte(random.Intn(256))})) + s[at:]
	case 1: // something is taken out
		return s[:at] + s[min(len(s), at+1+random.Intn(3)):]
	case 2: // a byte is another one
		if at < len(s) {
			return s[:at] + string([]byte{s[at] ^ 1<<random.Intn(8)}) + s[at+1:]
		}
	case 3: // words change places
		words := strings.SplitAfter(s, " ")
		i, j := random.Intn(len(words)), random.Intn(len(words))
		words[i], words[j] = words[j], words[i]
		return strings.Join(words, "")
	case 4: // a word of a kind is another one
		return strings.Replace(s, pick(random, kinds[1:]...), pick(random, kinds[1:]...), 1)
	}
	return s
}

// TestAnyText: what is taken, and what is not, is so by the patterns.
func TestAnyText(t *testing.T) {
	random := rand.New(rand.NewSource(226))
	taken, refused := 0, 0
	for range 60000 {
		s := textOf(anyList(random, 1+random.Intn(3))...)
		for range 1 + random.Intn(3) {
			s = twisted(random, s)
		}
		l, e, line := trace.Parse(s)
		want, at := parsedAll(s)
		if !slices.Equal(l, want) || line != at || (e == api.OK) != (at == 0) || e != api.OK && e != api.ErrTraceText {
			t.Fatalf("Parse(%q) = %v, %d, %d, want %v, %d", s, l, e, line, want, at)
		}
		if e == api.OK {
			taken++
			wantText(t, textOf(want...), l...)
		} else {
			refused++
		}
	}
	if taken < 5000 || refused < 20000 {
		t.Errorf("%d texts were taken, %d refused: the test asks too little", taken, refused)
	}
}

// TestLongLines: a line may have any number of blanks, and a word any number of
// bytes.
func TestLongLines(t *testing.T) {
	o := api.Obs{Tick: 1, Cell: 1, Kind: api.ObsHalt}
	blanks := strings.Repeat(" ", 1<<20)
	wantParse(t, blanks+"1"+blanks+"1"+blanks+"halt 00000000"+blanks, o)
	wantParse(t, blanks+"\n#"+blanks+strings.Repeat("x ", 1<<20)+"\n1 1 halt 00000000", o)
	for _, s := range []string{strings.Repeat("9", 1<<20), strings.Repeat("0", 1<<20), "1 1 halt " + strings.Repeat("0", 1<<20), strings.Repeat("x ", 1<<19), "1 1 halt 00000000" + strings.Repeat(" 0", 1<<19)} {
		if l, e, line := trace.Parse(s); len(l) != 0 || e != api.ErrTraceText || line != 1 {
			t.Errorf("Parse of a long line = %d, %d, %d", len(l), e, line)
		}
	}
}

// TestEachByte: where a digit stands, all but sixteen are refused.
func TestEachByte(t *testing.T) {
	for c := range 256 {
		s := "1 1 say 00000000 0000000" + string([]byte{byte(c)})
		if at := strings.IndexByte("0123456789abcdef", byte(c)); at >= 0 {
			wantParse(t, s, api.Obs{Tick: 1, Cell: 1, Kind: api.ObsSay, A: uint32(at)})
		} else {
			wantNoText(t, s, 1)
		}
		s = string([]byte{'1', byte(c)}) + " 1 halt 00000000"
		switch {
		case c >= '0' && c <= '9':
			wantParse(t, s, api.Obs{Tick: 10 + uint64(c-'0'), Cell: 1, Kind: api.ObsHalt})
		case c == ' ':
			wantParse(t, s, api.Obs{Tick: 1, Cell: 1, Kind: api.ObsHalt})
		default:
			wantNoText(t, s, 1)
		}
	}
}
