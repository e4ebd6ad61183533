package lab_test

import (
	"strings"
	"testing"

	"cloister/api"
)

// TestNothingSaid: lines that say nothing.
func TestNothingSaid(t *testing.T) {
	for _, s := range []string{"", "\n", " ", "  \n\n   ", "#", "# what", "  #what # now", "#now\n\n#", "# deck", "#%%", strings.Repeat(" ", 20000), "#" + strings.Repeat("~", 19999)} {
		wantRun(t, s)
	}
	wantRun(t, "# !~\n\n  now  \n#\nnow\n", "none", "none")
}

// TestLong: a script's bytes are counted ahead of all else.
func TestLong(t *testing.T) {
	for _, s := range []string{strings.Repeat(" ", 20001), strings.Repeat("now\n", 5001), "what" + strings.Repeat("\n", 20000), decked("#" + strings.Repeat("\x00", 20000)), "\x00" + strings.Repeat(" ", 30000)} {
		wantWrong(t, s, api.ErrLabLong, 0)
	}
	wantRun(t, strings.Repeat("now\n", 5000), strings.Split(strings.Repeat("none ", 4999)+"none", " ")...)
	wantWrong(t, strings.Repeat("\n", 19996)+"what", api.ErrLabLine, 19997)
}

// rights: commands as they may stand, with blanks and with their least and their
// greatest words. (There is no machine: all but print and boot tell the same.)
var rights = []string{
	"now", "  now", "now  ", "   now   ", "boot", " boot ", "print", " print  ",
	"irq 0 0", "irq 9223372036854775807 9223372036854775807", "  irq  5   7  ",
	"run 0", "run 1", "run 10", "run 9223372036854775807", "run 9223372036854775806", " run 5 ",
	"save a", "save 0", "save z9", "save abcdefghijklmnop", "save 0123456789abcdef", "save now", " save  a ",
	"load a", "load 00", "load abcdefghijklmnop", "keep a", "keep 9", "keep deck",
	"trace 0", "trace 9223372036854775807", "digest 0", "digest 9223372036854775807", "regs 0", "regs 9223372036854775807",
	"peek 0 00000000 0", "peek 1 ffffffff 9223372036854775807", "peek 9223372036854775807 0123abcd 1", " peek   1  00000000  0 ",
	"stat 0", "stat 9223372036854775807", "part 0 a", "part 9223372036854775807 abcdefghijklmnop", "sources 0", "sources 9223372036854775807",
}

// wrongs: lines that are none.
var wrongs = []string{
	"what", "Now", "NOW", "no", "nows", "now#", "now #", "now 1", "now now", "n ow", "%%", "% %", "end", "pages 4", "0", "-", "ok", "none",
	"boot 1", "boot a", "print 1", "print a", "print #",
	"irq", "irq 1", "irq 1 2 3", "irq a 1", "irq 1 a", "irq 01 1", "irq 1 01", "irq -1 1", "irq 1 -1", "irq 1 9223372036854775808", "irq 9223372036854775808 1",
	"run", "run a", "run 01", "run 00", "run -1", "run -0", "run +1", "run 1.0", "run 0x1", "run 1e3", "run 1_0", "run ff", "run 1 1", "run 9223372036854775808", "run 18446744073709551616", "run 99999999999999999999999", "run #1",
	"save", "save A", "save aB", "save a_b", "save a-b", "save a.b", "save a b", "save abcdefghijklmnopq", "save #a",
	"load", "load A", "load a b", "load abcdefghijklmnopq", "keep", "keep A", "keep a b", "keep abcdefghijklmnopq",
	"trace", "trace a", "trace 1 1", "trace -1", "trace 01", "digest", "digest a", "digest 1 1", "digest 01", "regs", "regs a", "regs 1 1", "regs 01",
	"peek", "peek 1", "peek 1 00000000", "peek 1 00000000 1 1", "peek 1 0 1", "peek 1 0000000 1", "peek 1 000000000 1", "peek 1 0000000A 1", "peek 1 0000000g 1", "peek 1 0x000000 1", "peek 1 +0000000 1", "peek 1 -0000000 1", "peek 1 000_0000 1", "peek a 00000000 1", "peek 01 00000000 1", "peek 1 00000000 01", "peek 1 00000000 a", "peek 1 00000000 9223372036854775808",
	"stat", "stat a", "stat 1 1", "stat 00", "part", "part 1", "part a", "part 1 A", "part a a", "part 1 a b", "part 01 a", "part a 1", "sources", "sources a", "sources 1 1", "sources 01",
	"now\t", "\tnow", "now\r", "\r", "\t", "\x00", "\x1f", "\x7f", "\x80", "\xff", "é", "#\t", "# \x00", "#\r", "# é", "#\x7f", "now \u00a0", "run\t1", "  \x0b",
	"deck", "deck x\n%%", "deck #\n%%", "deck 1\n%%", "Deck\n%%", "deck\n %%", "deck\n%% ", "deck\n%%\r", "deck\n%%%", "deck\n%", "deck\n%%#", "deck\n% %", "deck\n\n", "deck%%", "deck %%",
}

func TestLines(t *testing.T) {
	for _, s := range rights {
		wantRun(t, s, "none")
		wantRun(t, "# !\n"+s+"\n\nnow", "none", "none")
	}
	for _, s := range wrongs {
		wantWrong(t, s, api.ErrLabLine, 1)
		wantWrong(t, "now\n\n# what\n"+s, api.ErrLabLine, 4)
		wantWrong(t, decked(quiet)+"boot\nrun 50\n"+s+"\nwhat\nnow", api.ErrLabLine, strings.Count(quiet, "\n")+5)
		wantWrong(t, decked("what\nnow\n")+"now\n"+s, api.ErrLabLine, 6)
	}
}

// TestOtherBytes: each byte that is none of a script, wherever it stands, but in
// a deck.
func TestOtherBytes(t *testing.T) {
	for n := range 256 {
		c := string([]byte{byte(n)})
		if n >= 0x20 && n <= 0x7e || n == '\n' {
			wantRun(t, "#"+c)
			continue
		}
		for _, s := range []string{c, " " + c, "now" + c, c + "now", "#" + c, "# x " + c, "run " + c + "1", "save a" + c, "run 1 " + c} {
			wantWrong(t, "\n"+s, api.ErrLabLine, 2)
		}
		wantRun(t, "deck\n#"+c+"\n%%\nnow", "ok 0", "none")
		wantRun(t, "deck\n"+c+"x\n%%\nnow", map[bool]string{true: "error 242 1", false: "error 241 1"}[n == '\t'], "none")
	}
}

// TestFirstWrongLine: of two the one ahead; what stands behind it does not count.
func TestFirstWrongLine(t *testing.T) {
	wantWrong(t, "now\nwhat\nwhat", api.ErrLabLine, 2)
	wantWrong(t, "what\ndeck\n", api.ErrLabLine, 1)
	wantWrong(t, "now\ndeck\nwhat\nwhat", api.ErrLabLine, 2)
	wantWrong(t, "deck\n%%\ndeck\n%%\ndeck\ndeck", api.ErrLabLine, 5)
	wantWrong(t, "deck\n%%\n%%", api.ErrLabLine, 3)
	wantWrong(t, "deck x\nwhat", api.ErrLabLine, 1)
	wantWrong(t, "deck\nwhat\n%%\nnow\n  what", api.ErrLabLine, 5)
}
