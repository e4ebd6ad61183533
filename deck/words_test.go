package deck_test

import (
	"strconv"
	"strings"
	"testing"

	"cloister/api"
	"cloister/deck"
)

// places of numbers: what a line has in the place of $ goes up to 32 bits, or,
// of %, to 64.
var places = []string{
	"pages $", "own $ 1", "own 1 $", "cache $ 1 1", "cache 1 $ 1", "cache 1 1 $", "tlb $", "major %", "cell c $",
	"range $ 1 1 r", "range 1 $ 1 r", "range 1 1 $ r", "lines $", "lines 1 $", "lines 1 1 $ 1", "window a % 1", "window a 1 %",
	"sample a $", "sample a $ b", "queue a b $ 1 1 flow", "queue a b 1 $ 1 flow", "queue a b 1 1 $ oneway", "data a $", "data a $ 01",
}

// TestNumbers: in each place.
func TestNumbers(t *testing.T) {
	long := strings.Repeat("9", 400)
	for _, p := range places {
		put := func(n string) string { return abLines + strings.NewReplacer("$", n, "%", n).Replace(p) }
		for _, n := range []string{"0", "7", "10", "4294967295", "0x0", "0x00", "0xf", "0xffffffff", "0x0123456789", "0x00000000000000000000000000000000ffffffff", "0xabcdef"} {
			if n == "0x0123456789" && strings.Contains(p, "$") {
				wantWrong(t, put(n), api.ErrDeckRange, 3)
			} else {
				wantRead(t, put(n))
			}
		}
		for _, n := range []string{"00", "01", "007", "-1", "-0", "+1", "1.", ".1", "1e3", "1_0", "0x", "0xg", "0xA", "0X1", "x1", "1x", "0x1h", "0x-1", "0x_1", "0b1", "0o7", "1a", "a", "ff", "-", "r", "1,", "'1'", "(1)", "0x0x1", long + "a", "0" + long, "-" + long} {
			wantWrong(t, put(n), api.ErrDeckSyntax, 3)
		}
		for _, n := range []string{"18446744073709551616", "18446744073709551617", "0x10000000000000000", "99999999999999999999", "340282366920938463463374607431768211456", long, "0x1" + strings.Repeat("0", 300), "0x" + strings.Repeat("f", 17)} {
			wantWrong(t, put(n), api.ErrDeckRange, 3)
		}
		for _, n := range []string{"4294967296", "4294967297", "0x100000000", "18446744073709551615", "0xffffffffffffffff", "9223372036854775808"} {
			if strings.Contains(p, "%") {
				wantRead(t, put(n))
			} else {
				wantWrong(t, put(n), api.ErrDeckRange, 3)
			}
		}
	}
}

// TestValues: a number is what its digits say.
func TestValues(t *testing.T) {
	for s, want := range map[string]uint64{
		"0": 0, "1": 1, "9": 9, "10": 10, "255": 255, "4294967295": 1<<32 - 1, "4294967296": 1 << 32, "18446744073709551615": 1<<64 - 1, "9223372036854775807": 1<<63 - 1,
		"0x0": 0, "0xa": 10, "0x10": 16, "0x0009": 9, "0xffffffff": 1<<32 - 1, "0x123456789abcdef0": 0x123456789abcdef0, "0xffffffffffffffff": 1<<64 - 1, "0x00000000000000000000000000000000000012": 18,
	} {
		wantParse(t, "major "+s, api.Config{Major: want})
		if want < 1<<32 {
			wantParse(t, "own "+s+" "+s, api.Config{OwnBase: uint32(want), OwnPages: int(want)})
		}
	}
}

// names that a cell may have, and such that it may not.
var (
	names   = []string{"a", "Z", "0", "9", "end", "cell", "flow", "0x1", "A1b2", "abcdefghijklmnop", "0123456789012345", "ABCDEFGHIJKLMNOP"}
	noNames = []string{"-", "_", "a-b", "a_b", "a.b", ".", "a,", "a:", "%d", "~", "!", "abcdefghijklmnopq", "01234567890123456", strings.Repeat("a", 300), "@", "[", "`", "{", "/", "a/"}
)

func TestNames(t *testing.T) {
	for _, n := range names {
		g := api.Config{Cells: []api.Cell{{Name: n, Entry: 5}}, Windows: []api.Window{{Cell: 1}}, Queues: []api.Queue{{Writer: 1, Reader: 1}}}
		wantParse(t, lines("cell "+n+" 5", "window "+n+" 0 0", "queue "+n+" "+n+" 0 0 0 oneway"), g)
		wantWrong(t, lines("cell "+n+" 5", "cell x0 0", "cell "+n+" 5"), api.ErrDeckTwice, 3)
		wantWrong(t, "window "+n+" 0 0", api.ErrDeckName, 1)
	}
	for _, n := range noNames {
		wantWrong(t, "cell "+n+" 5", api.ErrDeckSyntax, 1)
		for _, p := range cellPlaces {
			wantWrong(t, abLines+strings.Replace(p, "$", n, 1), api.ErrDeckSyntax, 3)
		}
	}
	for c := range byte(128) {
		isName := c >= '0' && c <= '9' || c >= 'a' && c <= 'z' || c >= 'A' && c <= 'Z'
		if _, _, e, _ := deck.Parse("cell x" + string(rune(c)) + "y 5"); (e == api.OK) != isName {
			t.Errorf("a name with the byte %d: %d", c, e)
		}
	}
}

// cellPlaces: where a line has a cell, in the place of $.
var cellPlaces = []string{"window $ 1 1", "sample $ 1", "sample a 1 $", "sample a 1 b $ b", "queue $ b 1 1 1 flow", "queue a $ 1 1 1 flow", "data $ 1", "data $ 1 01", "code $\nend"}

// TestCells: they must have been said above, with these letters.
func TestCells(t *testing.T) {
	for _, p := range cellPlaces {
		wantRead(t, abLines+strings.Replace(p, "$", "b", 1))
		for _, n := range []string{"c", "A", "B", "ab", "1", "0", "2", "aa"} {
			wantWrong(t, abLines+strings.Replace(p, "$", n, 1), api.ErrDeckName, 3)
			wantWrong(t, abLines+strings.Replace(p, "$", n, 1)+"\ncell "+n+" 0", api.ErrDeckName, 3)
			wantRead(t, abLines+"cell "+n+" 0\n"+strings.Replace(p, "$", n, 1))
		}
	}
}

func TestPerms(t *testing.T) {
	for text, p := range map[string]api.Perm{"-": 0, "r": api.Read, "w": api.Write, "x": api.Exec, "rw": api.Read | api.Write, "rx": api.Read | api.Exec, "wx": api.Write | api.Exec, "rwx": api.Read | api.Write | api.Exec} {
		wantParse(t, lines("cell a 0", "range 1 2 3 "+text), api.Config{Cells: []api.Cell{{Name: "a", Ranges: []api.Range{{Virtual: 1, Physical: 2, Pages: 3, Perm: p}}}}})
	}
	for _, text := range []string{"wr", "xr", "xw", "rr", "ww", "xx", "rxw", "wrx", "xwr", "rwxr", "r-x", "--", "---", "-r", "r-", "R", "rW", "0", "7", "rwxx", "rwX", "a", "e"} {
		wantWrong(t, lines("cell a 0", "range 1 2 3 "+text), api.ErrDeckSyntax, 2)
	}
}

func TestKinds(t *testing.T) {
	for _, text := range []string{"Flow", "FLOW", "flo", "flows", "one-way", "one", "onewa", "oneways", "Oneway", "0", "1", "-", "true", "a"} {
		wantWrong(t, abLines+"queue a b 1 1 1 "+text, api.ErrDeckSyntax, 3)
	}
}

func TestHex(t *testing.T) {
	var all []byte
	text := ""
	for n := range 256 {
		all = append(all, byte(n))
		text += string("0123456789abcdef"[n/16]) + string("0123456789abcdef"[n%16])
	}
	g := api.Config{Cells: []api.Cell{{Name: "a"}}}
	wantParse(t, lines("cell a 0", "data a 0 "+text), g, api.Load{Cell: 1, Data: all})
	wantParse(t, lines("cell a 0", "data a 0", "more "+text), g, api.Load{Cell: 1, Data: all})
	for _, text := range []string{"0", "000", "0A", "A0", "0g", "g0", "0x", "0x00", "-1", "00,", "0_", "00 0", "00 0A 0", "00 11 2", "zz", "--", "0." + "", ".0", "+1"} {
		for _, line := range []string{"data a 0 ", "data a 0 00 ", "data a 0\nmore ", "data a 0\nmore ff "} {
			wantWrong(t, "cell a 0\n"+line+text, api.ErrDeckSyntax, 2+strings.Count(line, "\n"))
		}
	}
}

// TestEveryByte: which may stand in a line, ahead of the comment or in it.
func TestEveryByte(t *testing.T) {
	for c := range 256 {
		s := string([]byte{byte(c)})
		wantRead(t, "pages 4 #"+strings.ReplaceAll(s, "\n", ""))
		what := "byte " + strconv.Itoa(c)
		want := api.ErrDeckToken
		switch {
		case s == " " || s == "\t" || s == "\n" || s == "#":
			want = api.OK
		case c >= 0x21 && c <= 0x7e:
			want = api.ErrDeckSyntax
		}
		for _, text := range []string{s, " " + s, s + "# x", "\t" + s + "\t"} {
			if _, _, e, at := deck.Parse("tlb 1\n" + text); e != want || at != 2 && e != api.OK {
				t.Errorf("%s: Parse(%q) = %d, %d, want %d", what, text, e, at, want)
			}
		}
		if want == api.ErrDeckToken {
			for _, text := range []string{"pages" + s + "4", "pages 4" + s, s + "pages 4", "what" + s, "pages 4 4 " + s, "pages x " + s, "window b 0 0" + s, "more " + s, "code a" + s} {
				wantWrong(t, text, want, 1)
			}
		}
	}
}
