package deck_test

import (
	"bytes"
	"slices"
	"strings"
	"testing"

	"cloister/api"
	"cloister/asm"
	"cloister/config"
	"cloister/deck"
)

// lines are a deck of these, each with a newline behind it.
func lines(all ...string) string { return strings.Join(all, "\n") + "\n" }

func sameLoads(a, b []api.Load) bool {
	return slices.EqualFunc(a, b, func(a, b api.Load) bool {
		return a.Cell == b.Cell && a.At == b.At && bytes.Equal(a.Data, b.Data)
	})
}

func wantParse(t *testing.T, s string, g api.Config, l ...api.Load) {
	t.Helper()
	h, k, e, at := deck.Parse(s)
	if e != api.OK || at != 0 || !config.Equal(g, h) || !sameLoads(l, k) {
		t.Errorf("Parse(%q) = %+v, %+v, %d, %d, want %+v, %+v", s, h, k, e, at, g, l)
	}
}

func wantRead(t *testing.T, s string) {
	t.Helper()
	if _, _, e, at := deck.Parse(s); e != api.OK || at != 0 {
		t.Errorf("Parse(%q) = %d, %d", s, e, at)
	}
}

// wantWrong: with an error there is neither a configuration nor a load.
func wantWrong(t *testing.T, s string, want api.Errno, line int) {
	t.Helper()
	g, l, e, at := deck.Parse(s)
	if e != want || at != line || !config.Equal(g, api.Config{}) || len(l) != 0 {
		t.Errorf("Parse(%.200q) = %+v, %+v, %d, %d, want %d, %d", s, g, l, e, at, want, line)
	}
}

func wantPrint(t *testing.T, want string, g api.Config, l ...api.Load) {
	t.Helper()
	if s, e := deck.Print(g, l...); s != want || e != api.OK {
		t.Errorf("Print(%+v, %+v) = %q, %d, want %q", g, l, s, e, want)
	}
}

func wantNoPrint(t *testing.T, what string, want api.Errno, g api.Config, l ...api.Load) {
	t.Helper()
	if s, e := deck.Print(g, l...); s != "" || e != want {
		t.Errorf("%s: Print = %.100q, %d, want %d", what, s, e, want)
	}
}

// codeBytes are those of a program, as layer 11 makes them.
func codeBytes(t *testing.T, source string) []byte {
	t.Helper()
	m, e, line := asm.Assemble(source)
	if e != api.OK {
		t.Fatalf("asm.Assemble(%q) = %d, %d", source, e, line)
	}
	var b []byte
	for _, w := range m.Words {
		for ; len(b)%4 < 3; w >>= 8 {
			b = append(b, byte(w))
		}
		b = append(b, byte(w))
	}
	return b
}

// nothing is what Print writes of nothing.
const nothing = "pages 0\nown 0x00000000 0\ncache 0 0 0\ntlb 0\nmajor 0\n"

// TestExamples of the chapter.
func TestExamples(t *testing.T) {
	wantParse(t, lines("pages 4", "cell a 0x1000", "range 0x1000 8192 1 rx", "window a 0 5000", "data a 0x1000 0102 ff"), api.Config{
		Pages:   4,
		Cells:   []api.Cell{{Name: "a", Entry: 4096, Ranges: []api.Range{{Virtual: 4096, Physical: 8192, Pages: 1, Perm: api.Read | api.Exec}}}},
		Windows: []api.Window{{Cell: 1, Start: 0, Length: 5000}},
	}, api.Load{Cell: 1, At: 4096, Data: []byte{1, 2, 255}})
	wantWrong(t, lines("pages 4", "pages 4"), api.ErrDeckTwice, 2)
	wantWrong(t, "window b 0 5", api.ErrDeckName, 1)
	wantWrong(t, "pages 4294967296", api.ErrDeckRange, 1)
	wantWrong(t, "pages 04", api.ErrDeckSyntax, 1)
	wantWrong(t, "more 00", api.ErrDeckSyntax, 1)
	wantWrong(t, lines("cell a 0", "code a", "nop", "none", "end"), api.ErrDeckSource, 4)
	wantPrint(t, nothing, api.Config{})
}

// TestNothingSaid is 0, and empty.
func TestNothingSaid(t *testing.T) {
	for _, s := range []string{"", "\n", "\n\n\n", " ", "\t", " \t \n\t ", "#", "# pages 4", "   # \x00\xff", "#\n#\n#", strings.Repeat("\n", api.MaxSource)} {
		wantParse(t, s, api.Config{})
	}
	wantParse(t, "cell a 0", api.Config{Cells: []api.Cell{{Name: "a"}}})
	wantParse(t, lines("cell a 0", "sample a 0", "data a 0"), api.Config{Cells: []api.Cell{{Name: "a"}}, Samples: []api.Sample{{Writer: 1}}}, api.Load{Cell: 1})
}

// TestNumbersOfErrors: as the chapter has them.
func TestNumbersOfErrors(t *testing.T) {
	want := []api.Errno{api.ErrDeckLong, api.ErrDeckToken, api.ErrDeckSyntax, api.ErrDeckName, api.ErrDeckTwice, api.ErrDeckRange, api.ErrDeckSource, api.ErrDeckArg}
	for i, e := range want {
		if e != api.Errno(240+i) {
			t.Errorf("number %d is %d", i, e)
		}
	}
}
