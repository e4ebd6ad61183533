package deck_test

import (
	"bytes"
	"strings"
	"testing"

	"cloister/api"
	"cloister/asm"
	"cloister/deck"
)

// aCell is a configuration of one cell, and aLine its line.
var aCell = api.Config{Cells: []api.Cell{{Name: "a"}}}

const aLine = "cell a 0\n"

// TestProgram: its words go where its origin is, the lowest byte first.
func TestProgram(t *testing.T) {
	nop, halt := []byte{0, 0, 0, 0xc0}, []byte{0, 0, 0, 0xbc}
	for source, want := range map[string]api.Load{
		"":                               {Cell: 1},
		"\n\n":                           {Cell: 1},
		"# nothing\n":                    {Cell: 1},
		"nop\n":                          {Cell: 1, Data: nop},
		"nop\nhalt\n":                    {Cell: 1, Data: append(bytes.Clone(nop), halt...)},
		".org 0x1000\n":                  {Cell: 1, At: 0x1000},
		".org 0x1000\nhalt\n":            {Cell: 1, At: 0x1000, Data: halt},
		".org 0xfffffffc\nhalt\n":        {Cell: 1, At: 0xfffffffc, Data: halt},
		".word 0x12345678\n":             {Cell: 1, Data: []byte{0x78, 0x56, 0x34, 0x12}},
		".word 1, -1\n":                  {Cell: 1, Data: []byte{1, 0, 0, 0, 255, 255, 255, 255}},
		".zero 3\nhalt\n":                {Cell: 1, Data: append(make([]byte, 12), halt...)},
		".org 8\n.zero 1\nb: .word b\n":  {Cell: 1, At: 8, Data: []byte{0, 0, 0, 0, 12, 0, 0, 0}},
		".zero 4096\n":                   {Cell: 1, Data: make([]byte, 16384)},
		"  nop # one\n\n\thalt#\x00\xff": {Cell: 1, Data: append(bytes.Clone(nop), halt...)},
	} {
		if source != "" && !strings.HasSuffix(source, "\n") {
			source += "\n"
		}
		wantParse(t, aLine+"code a\n"+source+"end\n", aCell, want)
		wantParse(t, aLine+"code a\n"+source+"end", aCell, want)
		if !bytes.Equal(want.Data, codeBytes(t, source)) {
			t.Errorf("%q is %x of layer 11", source, codeBytes(t, source))
		}
	}
}

// TestProgramsOfCells: each is its own cell's, in the order of the lines, and
// knows nothing of the others' names.
func TestProgramsOfCells(t *testing.T) {
	g := ab(func(g *api.Config) { g.Pages, g.Slots = 4, 2 })
	wantParse(t, lines("cell a 0", "cell b 4", "code b", ".org 8", "x: .word x", "end", "pages 4", "data a 5 01", "code a", ".org 16", "x: .word x", "end", "data b 6 02", "more 03", "tlb 2", "code b", "nop", "end", "code b", "nop", "end"), g,
		api.Load{Cell: 2, At: 8, Data: []byte{8, 0, 0, 0}}, api.Load{Cell: 1, At: 5, Data: []byte{1}}, api.Load{Cell: 1, At: 16, Data: []byte{16, 0, 0, 0}}, api.Load{Cell: 2, At: 6, Data: []byte{2, 3}},
		api.Load{Cell: 2, Data: []byte{0, 0, 0, 0xc0}}, api.Load{Cell: 2, Data: []byte{0, 0, 0, 0xc0}})
	wantWrong(t, lines("cell a 0", "cell b 4", "code a", "x: nop", "end", "code b", "j x", "end"), api.ErrDeckSource, 7)
}

// TestEnd: the first line that has just this word, but for blanks and a comment.
func TestEnd(t *testing.T) {
	for _, end := range []string{"end", " end", "\tend", "end ", "end\t \t", "  end  ", "end#", "end#end", "end # x", "\t end\t# \x00\xff\r", "end # end"} {
		wantParse(t, aLine+"code a\nnop\n"+end, aCell, api.Load{Cell: 1, Data: codeBytes(t, "nop")})
		wantParse(t, aLine+"code a\n"+end+"\npages 0\n", aCell, api.Load{Cell: 1})
		wantWrong(t, aLine+"code a\nnop\n"+end+"\n"+end, api.ErrDeckSyntax, 5)
	}
	for _, end := range []string{"", "End", "END", "en", "ends", ".end", "end:", "end end", "end nop", "nop end", "e nd", "end\r", "\x00end", "end\xff", "# end", "#end", "end,", "code a", "\"end\"", "end\v", "\u00a0end"} {
		wantWrong(t, aLine+"code a\n"+end, api.ErrDeckSyntax, 2)
		wantWrong(t, aLine+"code a\nnop\n"+end+"\nnop\n", api.ErrDeckSyntax, 2)
		_, e, line := asm.Assemble("nop\n" + end + "\n")
		if e == api.OK {
			wantRead(t, aLine+"code a\nnop\n"+end+"\nend")
		} else {
			wantWrong(t, aLine+"code a\nnop\n"+end+"\nend", api.ErrDeckSource, 2+line)
		}
	}
	wantParse(t, aLine+lines("code a", "end: j end", "end"), aCell, api.Load{Cell: 1, Data: codeBytes(t, "x: j x")})
	wantWrong(t, aLine+"\n\ncode a\nwhat\n\n", api.ErrDeckSyntax, 4)
}

// TestLinesOfPrograms are no lines of the deck, whatever they are like.
func TestLinesOfPrograms(t *testing.T) {
	for _, s := range []string{"pages 4", "cell b 0", "data a 0 00", "more 00", "code a", "window a 0 0", "what", "\x00", "nop\x00", "é", "add r1, r2", "4"} {
		wantWrong(t, aLine+"code a\nnop\n"+s+"\nnop\nend", api.ErrDeckSource, 4)
	}
	for _, s := range []string{"# pages 4", "#\x00\xff\r", "pages: nop", "b: c: # cell d 0", "\t\t"} {
		wantRead(t, aLine+"code a\nnop\n"+s+"\nnop\nend")
	}
	wantParse(t, aLine+lines("code a", "# pages 4", "end", "pages 5"), api.Config{Pages: 5, Cells: aCell.Cells}, api.Load{Cell: 1})
	wantParse(t, aLine+lines("pages 5", "code a", "pages: tlb: nop", "end", "tlb 6"), api.Config{Pages: 5, Slots: 6, Cells: aCell.Cells}, api.Load{Cell: 1, Data: codeBytes(t, "nop")})
}

// wrongSources are none that assemble, and the line that the assembler means.
var wrongSources = []struct {
	source string
	line   int
}{
	{"what", 1}, {"nop nop", 1}, {"nop\nwhat", 2}, {"nop\n\n#\n?", 4}, {"add r1, r2", 1}, {"addi r1, r2, 5x", 1},
	{"a: nop\na: nop", 2}, {"a: a: nop", 1}, {"j nowhere", 1}, {"nop\nj nowhere\nnop", 2}, {"j nowhere\nwhat", 2}, {"j nowhere\na:\na:", 3},
	{"addi r1, r2, 131072", 1}, {"nop\nlui r1, 262144\nwhat r1", 3}, {"nop\nlui r1, 262144\nnop", 2}, {".word 4294967296", 1},
	{"nop\n.org 4", 2}, {".org 2", 1}, {".org 4294967296", 1}, {".zero 4097", 1}, {".zero 4096\nnop", 2}, {".org 0xfffffffc\nnop\nnop", 3}, {".org 0xfffffffc\nnop\n\na:", 4},
}

// TestWrongSources: the line of the deck is told; the program's are counted
// from the line behind `code` on.
func TestWrongSources(t *testing.T) {
	for _, c := range wrongSources {
		if _, e, line := asm.Assemble(c.source + "\n"); e == api.OK || line != c.line {
			t.Fatalf("asm.Assemble(%q) = %d, %d, want line %d", c.source, e, line, c.line)
		}
		wantWrong(t, aLine+"code a\n"+c.source+"\nend", api.ErrDeckSource, 2+c.line)
		wantWrong(t, aLine+"\n#\n\n\tcode a # x\n"+c.source+"\n\n end #\nwhat\n", api.ErrDeckSource, 5+c.line)
		wantWrong(t, aLine+"code a\nnop\nend\ndata a 0\ncode a\n"+c.source+"\nend", api.ErrDeckSource, 6+c.line)
		wantWrong(t, aLine+"code a\n"+c.source, api.ErrDeckSyntax, 2)
		wantWrong(t, aLine+"code b\n"+c.source+"\nend", api.ErrDeckName, 2)
	}
}

// TestLineBehind: lines behind a program are counted on.
func TestLineBehind(t *testing.T) {
	for n := range 5 {
		s := aLine + "code a\n" + strings.Repeat("nop\n", n) + "end\n"
		wantWrong(t, s+"what", api.ErrDeckSyntax, 4+n)
		wantWrong(t, s+"\n\n#\nwindow b 0 0", api.ErrDeckName, 7+n)
		wantWrong(t, s+s, api.ErrDeckTwice, 4+n)
		wantWrong(t, s+"code a\nnop", api.ErrDeckSyntax, 4+n)
	}
}

// TestLongPrograms: as long as the deck may be.
func TestLongPrograms(t *testing.T) {
	const around = aLine + "code a\nend"
	many := strings.Repeat("nop\n", 4096)
	wantParse(t, aLine+"code a\n"+many+"end", aCell, api.Load{Cell: 1, Data: bytes.Repeat([]byte{0, 0, 0, 0xc0}, 4096)})
	wantWrong(t, aLine+"code a\n"+many+"nop\nend", api.ErrDeckSource, 2+4097)
	long := strings.Repeat("\n", api.MaxSource-len(around))
	wantParse(t, aLine+"code a\n"+long+"end", aCell, api.Load{Cell: 1})
	wantWrong(t, aLine+"code a\n\n"+long+"end", api.ErrDeckLong, 0)
	wantWrong(t, aLine+"code a\n"+strings.Repeat("\n", api.MaxSource-len(around)-5)+"what\nend", api.ErrDeckSource, 2+api.MaxSource-len(around)-4)
	zeros := strings.Repeat("code a\n.zero 4096\nend\n", 800)
	if _, l, e, at := deck.Parse(aLine + zeros); e != api.OK || at != 0 || len(l) != 800 || !bytes.Equal(l[799].Data, make([]byte, 16384)) {
		t.Errorf("800 programs: %d loads, %d, %d", len(l), e, at)
	}
}
