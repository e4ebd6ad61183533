package deck_test

import (
	"strings"
	"testing"

	"cloister/api"
)

// TestLong: what has more bytes than it may is not read at all.
func TestLong(t *testing.T) {
	for _, s := range []string{" ", "\n", "#", "\x00", "é", "what\n"} {
		long := strings.Repeat(s, api.MaxSource/len(s)+1)
		wantWrong(t, long[:api.MaxSource+1], api.ErrDeckLong, 0)
		wantWrong(t, strings.Repeat(long, 5), api.ErrDeckLong, 0)
	}
	wantWrong(t, "pages 4\n#"+strings.Repeat("x", api.MaxSource-8), api.ErrDeckLong, 0)
	wantParse(t, "pages 4\n#"+strings.Repeat("x", api.MaxSource-9), api.Config{Pages: 4})
	wantParse(t, strings.Repeat(" ", api.MaxSource-7)+"pages 4", api.Config{Pages: 4})
	wantWrong(t, strings.Repeat("\n", api.MaxSource-1)+"x", api.ErrDeckSyntax, api.MaxSource)
}

// TestFirstLine: the first wrong one is told, whatever stands behind it.
func TestFirstLine(t *testing.T) {
	wrong := []struct {
		line string
		e    api.Errno
	}{{"\x00", api.ErrDeckToken}, {"what", api.ErrDeckSyntax}, {"window z 0 0", api.ErrDeckName}, {"cell a 0", api.ErrDeckTwice}, {"lines 4294967296", api.ErrDeckRange}, {"code a\nwhat\nend", api.ErrDeckSource}}
	for _, one := range wrong {
		for _, two := range wrong {
			at := 4
			if one.e == api.ErrDeckSource {
				at = 5
			}
			wantWrong(t, abLines+"\n"+one.line+"\n"+two.line, one.e, at)
		}
	}
}

// TestOrderInALine: of several things that are wrong in one line the first one
// is told.
func TestOrderInALine(t *testing.T) {
	for _, c := range []struct {
		s string
		e api.Errno
	}{
		// a byte ahead of all else
		{"what \x01", api.ErrDeckToken}, {"pages 4294967296 \x01", api.ErrDeckToken}, {"window z 0 0\x7f", api.ErrDeckToken}, {"cell a 0\r", api.ErrDeckToken}, {"code z \x80", api.ErrDeckToken},
		// how many words there are, ahead of what they are
		{"pages 4294967296 1", api.ErrDeckSyntax}, {"window z 0", api.ErrDeckSyntax}, {"window z 4294967296 1 1", api.ErrDeckSyntax}, {"cell a", api.ErrDeckSyntax}, {"queue z z 1 1 1", api.ErrDeckSyntax}, {"code z z", api.ErrDeckSyntax}, {"data z", api.ErrDeckSyntax}, {"sample z", api.ErrDeckSyntax},
		// its words, from the left
		{"own 4294967296 x", api.ErrDeckRange}, {"own x 4294967296", api.ErrDeckSyntax}, {"cache 1 4294967296 x", api.ErrDeckRange}, {"cache 1 x 4294967296", api.ErrDeckSyntax},
		{"cell a-b 4294967296", api.ErrDeckSyntax}, {"cell c 4294967296", api.ErrDeckRange}, {"range 4294967296 x x q", api.ErrDeckRange}, {"range 0 4294967296 x q", api.ErrDeckRange}, {"range 0 0 4294967296 q", api.ErrDeckRange}, {"range 0 0 x q", api.ErrDeckSyntax},
		{"lines 4294967296 x", api.ErrDeckRange}, {"lines x 4294967296", api.ErrDeckSyntax},
		{"window z x x", api.ErrDeckName}, {"window z 18446744073709551616 0", api.ErrDeckName}, {"window z? 18446744073709551616 0", api.ErrDeckSyntax}, {"window a x 18446744073709551616", api.ErrDeckSyntax}, {"window a 18446744073709551616 x", api.ErrDeckRange},
		{"sample z x", api.ErrDeckName}, {"sample a 4294967296 z", api.ErrDeckRange}, {"sample a x z", api.ErrDeckSyntax}, {"sample a 1 z ?", api.ErrDeckName}, {"sample a 1 ? z", api.ErrDeckSyntax},
		{"queue z ? 1 1 1 flow", api.ErrDeckName}, {"queue a z x 1 1 both", api.ErrDeckName}, {"queue ? z 1 1 1 flow", api.ErrDeckSyntax}, {"queue a b 4294967296 x x both", api.ErrDeckRange}, {"queue a b 1 4294967296 x both", api.ErrDeckRange}, {"queue a b 1 1 4294967296 both", api.ErrDeckRange},
		{"data z x 0", api.ErrDeckName}, {"data a 4294967296 0", api.ErrDeckRange}, {"data a x 0", api.ErrDeckSyntax},
		// what stands twice, behind its words
		{"pages x", api.ErrDeckSyntax}, {"pages 4294967296", api.ErrDeckRange}, {"pages 1", api.ErrDeckTwice}, {"cell a x", api.ErrDeckSyntax}, {"cell a 4294967296", api.ErrDeckRange}, {"cell a 0", api.ErrDeckTwice}, {"major 18446744073709551616", api.ErrDeckRange}, {"major 1", api.ErrDeckTwice},
		// the cell of a program ahead of its end
		{"code z", api.ErrDeckName}, {"code ?", api.ErrDeckSyntax}, {"code a", api.ErrDeckSyntax},
	} {
		wantWrong(t, abLines+"pages 1\nmajor 1\n"+c.s, c.e, 5)
	}
}

// TestTwice: also where the same is said, or the first one said nought.
func TestTwice(t *testing.T) {
	for _, s := range []string{"pages 0", "own 0 0", "cache 0 0 0", "tlb 0", "major 0", "pages 7", "own 7 7", "cache 7 7 7", "tlb 7", "major 7"} {
		word, _, _ := strings.Cut(s, " ")
		other := word + strings.Repeat(" 5", strings.Count(s, " "))
		wantWrong(t, s+"\n"+s, api.ErrDeckTwice, 2)
		wantWrong(t, s+"\n\n"+other+"\n"+s, api.ErrDeckTwice, 3)
		wantWrong(t, abLines+other+"\nwindow a 0 0\n"+s, api.ErrDeckTwice, 5)
	}
	wantRead(t, abLines+lines("pages 7", "own 7 7", "cache 7 7 7", "tlb 7", "major 7"))
	same := strings.Repeat("range 1 1 1 r\nlines 1\nwindow a 1 1\nsample a 1 b\nqueue a b 1 1 1 flow\ndata a 1 01\nmore 01\ncode a\nnop\nend\n", 3)
	wantRead(t, abLines+strings.ReplaceAll(same, "more 01\n", ""))
	wantRead(t, abLines+same)
	wantRead(t, "cell a 0\ncell A 0\ncell aa 0\ncell 0 0")
}

// TestNobodyAbove: what goes on with something needs it.
func TestNobodyAbove(t *testing.T) {
	for _, s := range []string{"range 0 0 0 r", "range 4294967296 0 0 r", "lines 1", "lines x", "more 00", "more 0"} {
		wantWrong(t, s, api.ErrDeckSyntax, 1)
		wantWrong(t, "pages 1\n"+s+"\ncell a 0\ndata a 0", api.ErrDeckSyntax, 2)
	}
	for _, s := range []string{"", "nop\n"} {
		wantWrong(t, "cell a 0\nmore 00", api.ErrDeckSyntax, 2)
		wantWrong(t, "cell a 0\ncode a\n"+s+"end\nmore 00", api.ErrDeckSyntax, 4+strings.Count(s, "\n"))
		wantWrong(t, "cell a 0\ndata a 0 01\ncode a\n"+s+"end\nmore 00", api.ErrDeckSyntax, 5+strings.Count(s, "\n"))
		wantRead(t, "cell a 0\ncode a\n"+s+"end\ndata a 0\nmore 00")
	}
}
