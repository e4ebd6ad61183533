package rill_test

import (
	"fmt"
	"strings"
	"testing"

	"cloister/api"
	"cloister/rill"
)

// TestNest: 40 brackets and unary signs may be open, and no more; terms may stand
// within 39 others.
func TestNest(t *testing.T) {
	deep := func(ahead, open, inner, close string, n int) string {
		return ahead + strings.Repeat(open, n) + inner + strings.Repeat(close, n)
	}
	before := in("")[:14]
	for _, c := range []struct {
		open, inner, close string
		most               int // so many may stand within one another
		e                  api.Errno
		step               int // where the first one stands that may not, in the next one
	}{
		{"(", "1", ")", 39, api.ErrRillDeep, 0},
		{"-", "1", "", 35, api.ErrRillDeep, 1},
		{"~", "1", "", 35, api.ErrRillDeep, 1},
		{"!", "1", "", 35, api.ErrRillDeep, 1},
		{"say(", "1", ")", 35, api.ErrRillDeep, 4},
		{"say(", "who()", ")", 35, api.ErrRillDeep, 4},
		{"-(", "1", ")", 19, api.ErrRillDeep, 0},
		{"(-", "1", ")", 19, api.ErrRillDeep, 0},
	} {
		s := deep(before, c.open, c.inner, c.close, c.most) + "; }"
		wantOK(t, s)
		if c.step > 0 { // as a tree: its innermost value is too deep
			wantParse(t, deep(before, c.open, c.inner, c.close, c.most+1)+"; }", c.e, 14+c.step*(c.most+1))
		}
	}
	// Of the 36th sum the left value is too deep.
	wantOK(t, deep(before, "1 + (", "1", ")", 35)+"; }")
	wantParse(t, deep(before, "1 + (", "1", ")", 36)+"; }", api.ErrRillDeep, 14+5*35)
	wantParse(t, before+strings.Repeat("(", 40)+"1", api.ErrRillDeep, 14+39)
	wantParse(t, before+strings.Repeat("(", 39)+"1", api.ErrRillSyntax, 14+40)
	wantParse(t, before+strings.Repeat("-", 40)+"1", api.ErrRillDeep, 14+39)
	wantParse(t, before+strings.Repeat("-(", 20)+"1", api.ErrRillDeep, 14+39)
	wantParse(t, before+strings.Repeat("(-", 20)+"1", api.ErrRillDeep, 14+39)
	wantParse(t, before+strings.Repeat("a[", 40)+"1", api.ErrRillDeep, 14+79)
	wantParse(t, before+strings.Repeat("f(", 40)+"1", api.ErrRillDeep, 14+79)
	wantParse(t, before+strings.Repeat("if 1 {", 40)+"1", api.ErrRillDeep, 14+239)
	// Its own bracket too is one: it is the 41st.
	wantParse(t, before+strings.Repeat("(", 39)+"(1", api.ErrRillDeep, 14+39)
	wantParse(t, before+strings.Repeat("(", 39)+"-1", api.ErrRillDeep, 14+39)
	wantParse(t, before+strings.Repeat("(", 39)+"a[1", api.ErrRillDeep, 14+40)
	wantParse(t, before+strings.Repeat("(", 39)+"f(1", api.ErrRillDeep, 14+40)
	wantParse(t, before+strings.Repeat("(", 39)+"a[", api.ErrRillDeep, 14+40)
	wantParse(t, before+strings.Repeat("(", 39)+"1 - 1 + !", api.ErrRillDeep, 14+47)
	wantParse(t, before+strings.Repeat("(", 39)+"1 (", api.ErrRillSyntax, 14+41)
	wantParse(t, before+strings.Repeat("(", 39)+"(\x00", api.ErrRillDeep, 14+39)
	wantParse(t, before+strings.Repeat("(", 39)+"\x00", api.ErrRillToken, 14+39)
}

// TestNestEnds: what has come to its end counts no more.
func TestNestEnds(t *testing.T) {
	most := strings.Repeat("(", 38)
	ends := strings.Repeat(")", 38)
	for _, s := range []string{
		most + "-1 - -1 - -1 * !1 == ~1" + ends, most + "(1) + (2) + (3)" + ends, most + "a[1] + a[2] + a[3]" + ends, most + "say(1) + say(2)" + ends,
		most + "-1" + ends + " + " + most + "-1" + ends, most + "write(1, 2)" + ends, most + "-1 + (2)" + ends, most + "-x + (1)" + ends, most + "a[1] + -x" + ends, "write(" + most + "1" + ends + ", " + most + "2" + ends + ")",
	} {
		wantOK(t, "array a[9]; "+in("var x = 1; "+s+"; "+s+";"))
		wantOK(t, "array a[9]; "+in("var x = 1; if 1 { } else { } if x { } forever { }"))
	}
	wantParse(t, in(most+"- -1"+ends+";"), api.ErrRillDeep, 14+40)
	wantParse(t, in(most+"-(1)"+ends+";"), api.ErrRillDeep, 14+39)
	wantParse(t, in(most+"-1 - -(1)"+ends+";"), api.ErrRillDeep, 14+44)
	wantParse(t, in(most+"-say(1)"+ends+";"), api.ErrRillDeep, 14+42)
	wantParse(t, in(most+"-x[1]"+ends+";"), api.ErrRillDeep, 14+40)
	wantParse(t, in(most+"write(-1, 2)"+ends+";"), api.ErrRillDeep, 14+44)
	wantParse(t, in(most+"write(1, (2))"+ends+";"), api.ErrRillDeep, 14+47)
}

// TestDeepTerms: within 39 others a term may stand, whatever it is; within 40 not.
func TestDeepTerms(t *testing.T) {
	nest := func(n int, inner string) string { // the inner value stands within n others
		return in(strings.Repeat("-", n-4) + inner + ";")
	}
	for inner, ahead := range map[string]int{"1": 0, "who()": 0, "x": 0} {
		s := strings.Replace(nest(38, inner), "{ ", "{ var x = 1; ", 1)
		wantOK(t, s)
		wantOK(t, strings.Replace(nest(39, inner), "{ ", "{ var x = 1; ", 1))
		wantParse(t, strings.Replace(nest(40, inner), "{ ", "{ var x = 1; ", 1), api.ErrRillDeep, 14+11+36+ahead)
	}
	wantParse(t, nest(39, "say(1)"), api.ErrRillDeep, 14+35+4)
	wantParse(t, nest(39, "(1 + 2)"), api.ErrRillDeep, 14+35+1)
	wantParse(t, nest(39, "(-1 + 2)"), api.ErrRillDeep, 14+35+1)
	wantOK(t, nest(38, "(1 + 2)"))
	wantParse(t, nest(38, "(-1 + 2)"), api.ErrRillDeep, 14+34+2)
	wantParse(t, nest(38, "(1 + -2)"), api.ErrRillDeep, 14+34+6)
	// Blocks: each one is two terms, its statement's and its own.
	blocks := func(n int, inner string) string {
		return in(strings.Repeat("if 1 { ", n) + inner + strings.Repeat(" }", n))
	}
	wantOK(t, blocks(18, ""))
	wantOK(t, blocks(17, "1;"))
	wantOK(t, blocks(17, "if 1 { }"))
	wantOK(t, blocks(17, "if 1 { } else { }"))
	wantParse(t, blocks(18, "1;"), api.ErrRillDeep, 14+7*18)
	wantParse(t, blocks(18, "if 1 { }"), api.ErrRillDeep, 14+7*18+3)
	wantParse(t, blocks(18, "while 1 bound 1 { }"), api.ErrRillDeep, 14+7*18+6)
	wantParse(t, blocks(17, "if --1 { }"), api.ErrRillDeep, 14+7*17+5)
	wantParse(t, blocks(17, "if 1 { 1; }"), api.ErrRillDeep, 14+7*18)
	wantOK(t, "array a[1]; "+blocks(17, "a[1] = 2;"))
	wantParse(t, blocks(18, "a[1] = 2;"), api.ErrRillDeep, 14+7*18+2)
	wantParse(t, blocks(17, "a[1] = --2;"), api.ErrRillDeep, 14+7*17+9)
}

// TestDeepTrees: the same of trees that nobody read.
func TestDeepTrees(t *testing.T) {
	nest := func(n int, inner api.Term) api.Term {
		for range n - 4 {
			inner = term(api.TermUnary, "~", inner)
		}
		return mainOf(do(inner))
	}
	for n := 30; n < 50; n++ {
		want := api.OK
		if n >= 40 {
			want = api.ErrRillDeep
		}
		x := nest(n, number(1))
		if e := rill.Check(x); e != want {
			t.Errorf("within %d: Check = %d", n, e)
		}
		holdTree(t, x)
		holdTree(t, nest(n, call("say", number(1))))
		holdTree(t, nest(n, call("say")))
	}
	blocks := block()
	for range 100 {
		blocks = block(term(api.TermIf, "", number(1), blocks))
	}
	x := program(function("main", blocks))
	if e := rill.Check(x); e != api.ErrRillDeep {
		t.Errorf("Check = %d", e)
	}
	holdTree(t, x)
}

// TestManyTerms: 4000 may be.
func TestManyTerms(t *testing.T) {
	const before = "func main() { "
	for more, want := range map[string]api.Errno{"": api.OK, "1;": api.ErrRillDeep, "-1;": api.ErrRillDeep, "who();": api.ErrRillDeep, "if 1 { }": api.ErrRillDeep} {
		// Three terms of the program, the function and the block, and 3997 others.
		s := before + strings.Repeat("1;", 1997) + "say(1);" + more + "}"
		at := len(before) + 2*1997 + len("say(1);")
		if want == api.OK {
			at = 0
		}
		wantBig(t, s, want, at)
	}
	// The 4001st is the value, and then a kid of its.
	wantBig(t, before+strings.Repeat("1;", 1998)+"(1);}", api.ErrRillDeep, 14+2*1998+1)
	wantBig(t, before+strings.Repeat("1;", 1998)+"-1;}", api.ErrRillDeep, 14+2*1998)
	wantBig(t, before+strings.Repeat("1;", 1997)+"1+(2);}", api.ErrRillDeep, 14+2*1997+3)
	wantBig(t, before+strings.Repeat("1;", 1997)+"say(-1);}", api.ErrRillDeep, 14+2*1997+5)
	many := make([]api.Term, 3997)
	for i := range many {
		many[i] = number(1)
	}
	for n := 3993; n < 3998; n++ {
		want := api.ErrRillCount
		if n > 3995 {
			want = api.ErrRillDeep
		}
		if e := rill.Check(mainOf(do(call("say", many[:n]...)))); e != want {
			t.Errorf("%d terms: Check = %d, want %d", n+5, e, want)
		}
	}
}

// wantBig leaves the model's grammar out, which takes long.
func wantBig(t *testing.T, s string, e api.Errno, at int) {
	t.Helper()
	x, f, place := rill.Parse(s)
	if e != f || at != place {
		t.Errorf("Parse(%.40q, %d bytes) = %d, %d, want %d, %d", s, len(s), f, place, e, at)
	}
	if e == api.OK {
		holdTree(t, x)
	}
}

// TestLongSources: 20000 bytes may be, whatever they are.
func TestLongSources(t *testing.T) {
	for _, s := range []string{in(""), in("say(1);"), " " + in("")} {
		for _, fill := range []string{" ", "\n", "\t", "\r"} {
			wantBig(t, s+strings.Repeat(fill, 20000-len(s)), api.OK, 0)
			wantBig(t, s+strings.Repeat(fill, 20001-len(s)), api.ErrRillLong, 0)
			wantBig(t, strings.Repeat(fill, 20000-len(s))+s, api.OK, 0)
			wantBig(t, strings.Repeat(fill, 20001-len(s))+s, api.ErrRillLong, 0)
		}
		wantBig(t, s+"#"+strings.Repeat("\xff", 19999-len(s)), api.OK, 0)
		wantBig(t, s+"#"+strings.Repeat("\xff", 20000-len(s)), api.ErrRillLong, 0)
	}
	wantBig(t, strings.Repeat(" ", 20000), api.ErrRillName, 0)
	wantBig(t, strings.Repeat("\x00", 20000), api.ErrRillToken, 0)
	wantBig(t, strings.Repeat("\x00", 20001), api.ErrRillLong, 0)
	wantBig(t, strings.Repeat(" ", 19999)+")", api.ErrRillSyntax, 19999)
	wantBig(t, strings.Repeat("a", 20000), api.ErrRillSyntax, 0)
	wantBig(t, strings.Repeat("9", 20000), api.ErrRillRange, 0)
	wantBig(t, "0x"+strings.Repeat("0", 19998), api.ErrRillSyntax, 0)
	wantBig(t, strings.Repeat("(", 20000), api.ErrRillSyntax, 0)
	// Signs of one level do not nest as brackets do, but their terms do.
	wantBig(t, "func main() { "+strings.Repeat("1+", 9990)+"1;}", api.ErrRillDeep, 14)
	wantBig(t, "func main() { "+strings.Repeat("1+", 35)+"1;}", api.OK, 0)
	wantBig(t, "func main() { "+strings.Repeat("1+", 36)+"1;}", api.ErrRillDeep, 14)
	wantBig(t, "func main() { "+strings.Repeat("-", 15000)+"1;}", api.ErrRillDeep, 14+39)
}

// TestLongTexts: 20000 bytes may be printed.
func TestLongTexts(t *testing.T) {
	// "func main() {\n" and "}\n" are 16 bytes, "\tsay(4294967295);\n" 18, "\t0;\n" four.
	tree := func(says, nils int, more ...api.Term) api.Term {
		l := more
		for range says {
			l = append(l, do(call("say", number(-1))))
		}
		for range nils {
			l = append(l, do(number(0)))
		}
		return mainOf(l...)
	}
	for _, c := range []struct {
		x    api.Term
		long int
	}{
		{tree(1110, 1), 20000},
		{tree(1110, 0, do(number(10))), 20001},
		{tree(1110, 0), 19996},
		{tree(1110, 2), 20004},
		{tree(1109, 5), 19998},
		{tree(1109, 4, do(number(10))), 19999},
		{tree(1109, 4, do(number(1000))), 20001},
		{tree(1200, 0), 21616},
	} {
		s, e := rill.Print(c.x)
		switch {
		case c.long <= 20000 && (e != api.OK || len(s) != c.long):
			t.Errorf("%d bytes, %d, want %d bytes", len(s), e, c.long)
		case c.long > 20000 && (e != api.ErrRillLong || s != ""):
			t.Errorf("%d bytes, %d, want an error", len(s), e)
		}
		if n := len(modelText(c.x)); n != c.long {
			t.Errorf("the model writes %d bytes, want %d", n, c.long)
		}
		if rill.Check(c.x) != api.OK {
			t.Errorf("Check = %d", rill.Check(c.x))
		}
	}
	// A source may be shorter than its text.
	s := in(strings.Repeat("if 1{", 15) + strings.Repeat("say(1);", 1000) + strings.Repeat("}", 15))
	x := parsed(t, s)
	if got, e := rill.Print(x); got != "" || e != api.ErrRillLong {
		t.Errorf("%d bytes, %d", len(got), e)
	}
	holdTree(t, x)
}

// TestRanges: arrays, functions, parameters, and the bounds of loops.
func TestRanges(t *testing.T) {
	for n, e := range map[string]api.Errno{"0": api.ErrRillRange, "1": api.OK, "2": api.OK, "511": api.OK, "512": api.OK, "513": api.ErrRillRange, "65536": api.ErrRillRange, "2147483648": api.ErrRillRange, "4294967295": api.ErrRillRange} {
		wantPlaceOr(t, "array x[1]; @array a["+n+"]; "+in(""), e)
	}
	for n, e := range map[string]api.Errno{"0": api.ErrRillRange, "1": api.OK, "2": api.OK, "65535": api.OK, "65536": api.OK, "65537": api.ErrRillRange, "2147483647": api.ErrRillRange, "2147483648": api.ErrRillRange, "4294967295": api.ErrRillRange} {
		wantPlaceOr(t, in("say(1); @while 1 bound "+n+" { }"), e)
		wantPlaceOr(t, in("if 1 { } else { @while 1 bound "+n+" { } }"), e)
	}
	for n, list := range []string{"", "a", "a, b", "a, b, c", "a, b, c, d", "a, b, c, d, e", "a, b, c, d, e, g", "a, b, c, d, e, g, h", "a, b, c, d, e, g, h, i"} {
		e := api.OK
		if n > 6 {
			e = api.ErrRillRange
		}
		wantPlaceOr(t, "func o() { } @func f("+list+") { } "+in(""), e)
	}
	for n := 15; n < 19; n++ {
		s := ""
		for i := range n {
			s += map[bool]string{true: "@"}[i == 16] + fmt.Sprintf("array a%d[1]; ", i)
		}
		e := api.OK
		if n > 16 {
			e = api.ErrRillRange
		}
		wantPlaceOr(t, s+in(""), e)
	}
	for n := 62; n < 67; n++ {
		s := ""
		for i := range n {
			s += map[bool]string{true: "@"}[i == 64] + fmt.Sprintf("func f%d() { } ", i)
		}
		e := api.OK
		if n > 63 {
			e = api.ErrRillRange
		}
		if n == 64 {
			s += "@" // main is the 65th
		}
		wantPlaceOr(t, s+in(""), e)
	}
	for _, x := range []api.Term{program(array("a", 0), function("main", block())), program(array("a", -1), function("main", block())), program(array("a", 513), function("main", block())), mainOf(rounds(0, number(1), block())), mainOf(rounds(-1, number(1), block())), mainOf(rounds(65537, number(1), block()))} {
		if e := rill.Check(x); e != api.ErrRillRange {
			t.Errorf("Check(%+v) = %d", x, e)
		}
		holdTree(t, x)
	}
}

// wantPlaceOr asks for the error at the mark, or for none.
func wantPlaceOr(t *testing.T, s string, e api.Errno) {
	t.Helper()
	if e != api.OK {
		wantPlace(t, s, e)
		return
	}
	wantOK(t, strings.Replace(s, "@", "", 1))
}
