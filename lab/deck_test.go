package lab_test

import (
	"fmt"
	"strings"
	"testing"

	"cloister/api"
	"cloister/deck"
)

// TestDeck: how many cells, or the error and its line; a script goes on behind
// it.
func TestDeck(t *testing.T) {
	wantRun(t, "deck\n%%", "ok 0")
	wantRun(t, "  deck  \n%%\n", "ok 0")
	wantRun(t, decked("cell a 0\ncell b 0\n")+"now", "ok 2", "none")
	wantRun(t, decked("pages 4\npages 4\n")+"now", "error 244 2", "none")
	wantRun(t, decked("\n\nwindow b 0 5\n"), "error 243 3")
	wantRun(t, decked("pages 4294967296\n"), "error 245 1")
	wantRun(t, decked("cell a 0\ncode a\nnop\nwhat\nend\n"), "error 246 4")
	wantRun(t, decked("cell a 0\ncode a\nnop\n"), "error 242 2")
	wantRun(t, "now\n"+decked("now\n")+decked("cell a 0\n"), "none", "error 242 1", "ok 1")
}

// TestDeckLines: of a deck's lines only that ends it which is just two bytes.
func TestDeckLines(t *testing.T) {
	for _, s := range []string{" %%", "%% ", "%%%", "%%#", "%", "\t%%", "%%\r"} {
		want := "error 242 1"
		if s == "%%\r" {
			want = "error 241 1"
		}
		wantRun(t, "deck\n"+s+"\n%%\nnow", want, "none")
		wantRun(t, "deck\n#"+s+"\n%%\nnow", "ok 0", "none")
	}
	wantRun(t, "deck\ndeck\n%%\nnow", "error 242 1", "none")
	wantRun(t, "deck\n# deck\n#\xff\x00\r\n%%\nnow", "ok 0", "none")
	wantRun(t, "deck\npages\t4 #\xfe\n%%\nprint", "ok 0", "print 5", "pages 4", "own 0x00000000 0", "cache 0 0 0", "tlb 0", "major 0")
	wantRun(t, "deck\n\n%%\nsources 1", "ok 0", "sources")
}

// TestDeckThatIsNone: all stays as it was; one that is one takes the machine
// away, and what was observed.
func TestDeckThatIsNone(t *testing.T) {
	head := decked(quiet) + "boot\nrun 5\nkeep x\n"
	wantRun(t, head+decked("what\n")+"now\ntrace 1\nregs 1\npart 1 x\nsources 1", "ok 1", "ok", "ok 1", "ok", "error 242 1",
		"now 1000", "trace 1", "0 1 halt 00004000", "regs 00004000"+strings.Repeat(" 00000000", 15)+" halted", "part -1", "sources 1")
	wantRun(t, head+decked(quiet)+"now\ntrace 1\nirq 1 1\nrun 1\nboot\nnow\ntrace 0\npart 1 x", "ok 1", "ok", "ok 1", "ok", "ok 1",
		"none", "none", "none", "none", "ok", "now 0", "trace 0", "part 0")
	wantRun(t, head+decked("cell z 0\ncell y 0\n")+"sources 2\nboot\nnow", "ok 1", "ok", "ok 1", "ok", "ok 2", "sources 2", "error 140", "none")
}

// TestBoot: what is refused changes nothing; what was saved and kept stays.
func TestBoot(t *testing.T) {
	wantRun(t, decked("cache 65536 1 16\n")+"boot\nnow", "ok 0", "error 130", "none")
	wantRun(t, decked("")+"boot\nnow", "ok 0", "error 140", "none")
	wantRun(t, decked(strings.Replace(quiet, "0 1000", "0 100", 1))+"boot\nnow", "ok 1", "error 149", "none")
	wantRun(t, decked(quiet+"data a 0x4fff 0102\n")+"boot\nnow", "ok 1", "error 190", "none")
	wantRun(t, decked(quiet)+"boot\nnow\nrun 1\nboot\nnow\ntrace 1\nrun 1\ntrace 1", "ok 1", "ok", "now 0", "ok 1", "ok", "now 0", "trace 0", "ok 1", "trace 1", "0 1 halt 00004000")
	wantRun(t, decked(quiet)+"boot\nrun 1\nsave a\nkeep b\nboot\npart 1 b\nload a\npart 1 b", "ok 1", "ok", "ok 1", "ok", "ok", "ok", "part 0", "ok", "part -1")
	// A machine that was loaded stays, if another deck is refused.
	wantRun(t, decked(quiet)+"boot\nrun 1\nsave a\n"+decked("")+"load a\nboot\nnow\ntrace 1\nsources 1", "ok 1", "ok", "ok 1", "ok", "ok 0", "ok", "error 140", "now 1000", "trace 1", "0 1 halt 00004000", "sources")
	// What is laid into the cells is laid.
	wantRun(t, decked(quiet+"data a 0x4ffe 0102\n")+"boot\npeek 1 00004ffc 4", "ok 1", "ok", "= 00000102")
}

// TestPrint: how many lines, and these: of the deck at hand, with its loads.
func TestPrint(t *testing.T) {
	for _, s := range []string{pair, quiet, clockwork(5), "", "cell a 1\nsample a 4 a a\ndata a 5\ndata a 7 00\nmore 01\n"} {
		g, l, e, _ := deck.Parse(s)
		text, f := deck.Print(g, l...)
		if e != api.OK || f != api.OK {
			t.Fatalf("a deck that is none: %d, %d", e, f)
		}
		n := strings.Count(text, "\n")
		want := append([]string{fmt.Sprint("ok ", len(g.Cells)), fmt.Sprint("print ", n)}, strings.Split(text, "\n")[:n]...)
		wantRun(t, decked(s)+"print", want...)
		// What is printed is a deck, and printed the same.
		wantRun(t, decked(text)+"print", want...)
	}
	wantRun(t, decked("cell a 0\ncode a\n.zero 4096\nend\n")+"print\nsources 1", "ok 1", "error 240", "sources 1")
	wantRun(t, decked(quiet)+"boot\n"+decked("pages 7\n")+"print", "ok 1", "ok", "ok 0", "print 5", "pages 7", "own 0x00000000 0", "cache 0 0 0", "tlb 0", "major 0")
}

// TestSources: of the deck's configuration, whether it may be or not.
func TestSources(t *testing.T) {
	const g = "cell a 0\ncell b 0\ncell c 0\nsample a 4 b c\nqueue b c 4 1 1 oneway\n"
	wantRun(t, decked(g)+"sources 1\nsources 2\nsources 3\nsources 0\nsources 4\nsources 9223372036854775807", "ok 3", "sources 1", "sources 1 2", "sources 1 2 3", "sources", "sources", "sources")
	wantRun(t, decked(pair)+"sources 1\nsources 2", "ok 2", "sources 1 2", "sources 1 2")
}
