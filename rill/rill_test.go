package rill_test

import (
	"fmt"
	"strings"
	"testing"

	"cloister/api"
	"cloister/rill"
)

// in is a program of this main function, whose statements begin at 14.
func in(s string) string { return "func main() { " + s + " }" }

// wantParse asks for an error and its place, of the program and of the model.
func wantParse(t *testing.T, s string, e api.Errno, at int) {
	t.Helper()
	x, f, place := rill.Parse(s)
	if e != f || at != place {
		t.Errorf("Parse(%.300q) = %d, %d, want %d, %d", s, f, place, e, at)
	}
	if e != api.OK && !same(x, api.Term{}) {
		t.Errorf("Parse(%.300q) = %+v beside an error", s, x)
	}
	holdParse(t, s)
}

// wantPlace asks for an error at the place of a mark, which is taken out.
func wantPlace(t *testing.T, s string, e api.Errno) {
	t.Helper()
	wantParse(t, strings.Replace(s, "@", "", 1), e, strings.Index(s, "@"))
}

func wantOK(t *testing.T, s string) {
	t.Helper()
	wantParse(t, s, api.OK, 0)
}

// parsed is the tree of a source.
func parsed(t *testing.T, s string) api.Term {
	t.Helper()
	x, e, at := rill.Parse(s)
	if e != api.OK {
		t.Fatalf("Parse(%.300q) = %d, %d", s, e, at)
	}
	return x
}

// wantPrint asks how a source is printed.
func wantPrint(t *testing.T, s, want string) {
	t.Helper()
	x := parsed(t, s)
	if got, e := rill.Print(x); got != want || e != api.OK {
		t.Errorf("%q is printed as %q, %d, want %q", s, got, e, want)
	}
	holdTree(t, x)
	if y := parsed(t, want); !same(x, y) {
		t.Errorf("%q is read as %+v, want %+v", want, y, x)
	}
}

// TestExamples are the chapter's.
func TestExamples(t *testing.T) {
	wantPrint(t, "array a[10]; func main() { var i = 0; while i < 10 bound 10 { a[i] = i * i; i = i + 1; } say(a[9]); }",
		"array a[10];\nfunc main() {\n\tvar i = 0;\n\twhile i < 10 bound 10 {\n\t\ta[i] = i * i;\n\t\ti = i + 1;\n\t}\n\tsay(a[9]);\n}\n")
	wantParse(t, "func main() { x = 1; }", api.ErrRillName, 14)
	wantParse(t, "func main() { var x = x; }", api.ErrRillName, 22)
	wantParse(t, "func main() { { var x = 1; } }", api.ErrRillSyntax, 14)
	wantParse(t, "func f() { g(); } func g() { f(); } func main() { }", api.ErrRillCycle, 0)
	wantParse(t, "func main() { main(); }", api.ErrRillName, 14)
	wantParse(t, "func main() { say(1, 2); }", api.ErrRillCount, 14)
	wantPrint(t, "func main() { say(-(1 + 2) * 3); }", "func main() {\n\tsay(-(1 + 2) * 3);\n}\n")
	wantParse(t, "func main() { forever { say(1); } say(2); }", api.ErrRillTree, 14)
	say := parsed(t, "func main() { say(-(1 + 2) * 3); }").Kids[0].Kids[0].Kids[0].Kids[0]
	if product := say.Kids[0]; product.Text != "*" || product.Kids[0].Kind != api.TermUnary || product.Kids[0].Kids[0].Text != "+" || product.Kids[1].N != 3 {
		t.Errorf("say(%+v)", product)
	}
}

// The terms that follow have just what the table says.
func number(n int32) api.Term    { return api.Term{Kind: api.TermNumber, N: n} }
func named(name string) api.Term { return api.Term{Kind: api.TermName, Text: name} }
func term(k api.TermKind, text string, kids ...api.Term) api.Term {
	return api.Term{Kind: k, Text: text, Kids: kids}
}
func block(kids ...api.Term) api.Term { return term(api.TermBlock, "", kids...) }
func call(name string, kids ...api.Term) api.Term {
	return term(api.TermCall, name, kids...)
}
func do(v api.Term) api.Term { return term(api.TermDo, "", v) }
func function(name string, kids ...api.Term) api.Term {
	return term(api.TermFunction, name, kids...)
}
func program(kids ...api.Term) api.Term { return term(api.TermProgram, "", kids...) }
func mainOf(statements ...api.Term) api.Term {
	return program(function("main", block(statements...)))
}
func array(name string, n int32) api.Term {
	return api.Term{Kind: api.TermArray, Text: name, N: n}
}
func rounds(n int32, v, b api.Term) api.Term {
	return api.Term{Kind: api.TermWhile, N: n, Kids: []api.Term{v, b}}
}

// TestTerms: each row of the chapter's table.
func TestTerms(t *testing.T) {
	one, two := number(1), number(2)
	for s, want := range map[string]api.Term{
		in(""):                       mainOf(),
		"array a[3]; " + in(""):      program(array("a", 3), function("main", block())),
		"func f() { } " + in(""):     program(function("f", block()), function("main", block())),
		"func f(a) { } " + in(""):    program(function("f", named("a"), block()), function("main", block())),
		"func f(a, b) { } " + in(""): program(function("f", named("a"), named("b"), block()), function("main", block())),
		in("var x = 1;"):             mainOf(term(api.TermVar, "x", one)),
		in("var x = 1; x = 2;"):      mainOf(term(api.TermVar, "x", one), term(api.TermSet, "x", two)),
		"array a[3]; " + in("a[1] = 2;"): program(array("a", 3), function("main",
			block(term(api.TermPut, "a", one, two)))),
		in("if 1 { }"):                     mainOf(term(api.TermIf, "", one, block())),
		in("if 1 { } else { say(2); }"):    mainOf(term(api.TermIf, "", one, block(), block(do(call("say", two))))),
		in("if 1 { say(2); } else { }"):    mainOf(term(api.TermIf, "", one, block(do(call("say", two))), block())),
		in("while 1 bound 7 { say(2); }"):  mainOf(rounds(7, one, block(do(call("say", two))))),
		in("forever { }"):                  mainOf(term(api.TermForever, "", block())),
		in("forever { say(1); }"):          mainOf(term(api.TermForever, "", block(do(call("say", one))))),
		in("return 1;"):                    mainOf(term(api.TermReturn, "", one)),
		in("1;"):                           mainOf(do(one)),
		in("4294967295; 2147483648; 0;"):   mainOf(do(number(-1)), do(number(-1<<31)), do(number(0))),
		in("0xffffffff; 0x0; 0x7fffffff;"): mainOf(do(number(-1)), do(number(0)), do(number(1<<31-1))),
		in("var x = 1; x;"):                mainOf(term(api.TermVar, "x", one), do(named("x"))),
		"array a[3]; " + in("a[1];"): program(array("a", 3), function("main",
			block(do(term(api.TermAt, "a", one))))),
		in("who();"):       mainOf(do(call("who"))),
		in("write(1, 2);"): mainOf(do(call("write", one, two))),
		"func f(a, b) { } " + in("f(1, f(2, 1));"): program(function("f", named("a"), named("b"), block()), function("main",
			block(do(call("f", one, call("f", two, one)))))),
		in("-1;"):            mainOf(do(term(api.TermUnary, "-", one))),
		in("~1;"):            mainOf(do(term(api.TermUnary, "~", one))),
		in("!1;"):            mainOf(do(term(api.TermUnary, "!", one))),
		in("1 + 2;"):         mainOf(do(term(api.TermBinary, "+", one, two))),
		in("(1);"):           mainOf(do(one)),
		in("((1 - ((2))));"): mainOf(do(term(api.TermBinary, "-", one, two))),
		in("(-1) - -(2);"):   mainOf(do(term(api.TermBinary, "-", term(api.TermUnary, "-", one), term(api.TermUnary, "-", two)))),
	} {
		if x := parsed(t, s); !same(x, want) {
			t.Errorf("Parse(%q) = %+v, want %+v", s, x, want)
		}
		holdParse(t, s)
		if e := rill.Check(want); e != api.OK {
			t.Errorf("Check(%+v) = %d", want, e)
		}
		holdTree(t, want)
	}
}

// TestLevels: each binary sign beside each other one.
func TestLevels(t *testing.T) {
	for l, first := range modelLevels {
		for m, second := range modelLevels {
			for _, a := range first {
				for _, b := range second {
					s := fmt.Sprintf("1 %s 2 %s 3", a, b)
					want := fmt.Sprintf("(1 %s 2) %s 3", a, b)
					other := fmt.Sprintf("1 %s (2 %s 3)", a, b)
					if l < m {
						want, other = other, want
					}
					got := parsed(t, in(s+";"))
					if !same(got, parsed(t, in(want+";"))) || same(got, parsed(t, in(other+";"))) {
						t.Errorf("%q is not %q", s, want)
					}
					wantPrint(t, in(want+";"), "func main() {\n\t"+s+";\n}\n")
					wantPrint(t, in(other+";"), "func main() {\n\t"+other+";\n}\n")
				}
			}
		}
		for _, a := range first {
			for _, u := range []string{"-", "~", "!"} {
				s := fmt.Sprintf("%s1 %s %s2", u, a, u)
				wantPrint(t, in(fmt.Sprintf("(%s1) %s (%s2);", u, a, u)), "func main() {\n\t"+s+";\n}\n")
				s = fmt.Sprintf("%s(1 %s 2)", u, a)
				wantPrint(t, in(s+";"), "func main() {\n\t"+s+";\n}\n")
			}
			wantPrint(t, in(fmt.Sprintf("1 %s 2 %s 3 %s 4;", a, a, a)), fmt.Sprintf("func main() {\n\t1 %s 2 %s 3 %s 4;\n}\n", a, a, a))
		}
	}
}

// TestPrint: each kind of line.
func TestPrint(t *testing.T) {
	wantPrint(t, in(""), "func main() {\n}\n")
	wantPrint(t, "array a[0x10];array b[512];func f(a1,b1,c1){}func main(){}", "array a[16];\narray b[512];\nfunc f(a1, b1, c1) {\n}\nfunc main() {\n}\n")
	wantPrint(t, in("if(1){}else{}"), "func main() {\n\tif 1 {\n\t} else {\n\t}\n}\n")
	wantPrint(t, in("if 1 { if 2 { 3; } else { 4; } } else { if 5 { } }"), "func main() {\n\tif 1 {\n\t\tif 2 {\n\t\t\t3;\n\t\t} else {\n\t\t\t4;\n\t\t}\n\t} else {\n\t\tif 5 {\n\t\t}\n\t}\n}\n")
	wantPrint(t, in("while((1+2)*3)bound 0x10000{return(1);}"), "func main() {\n\twhile (1 + 2) * 3 bound 65536 {\n\t\treturn 1;\n\t}\n}\n")
	wantPrint(t, in("return(1+2)*3;"), "func main() {\n\treturn (1 + 2) * 3;\n}\n")
	wantPrint(t, "func forever1() { } "+in("forever{forever1();}"), "func forever1() {\n}\nfunc main() {\n\tforever {\n\t\tforever1();\n\t}\n}\n")
	wantPrint(t, "array a[1]; "+in("var x=-1;x=~x;a[x]=!a[-x];"), "array a[1];\nfunc main() {\n\tvar x = -1;\n\tx = ~x;\n\ta[x] = !a[-x];\n}\n")
	wantPrint(t, in("write((1),((2+3))*4);who();"), "func main() {\n\twrite(1, (2 + 3) * 4);\n\twho();\n}\n")
	wantPrint(t, in("- - -1; !~-1; 1 - -1; 1 - -(1 - 1); -(-(1)); -say(1);"), "func main() {\n\t---1;\n\t!~-1;\n\t1 - -1;\n\t1 - -(1 - 1);\n\t--1;\n\t-say(1);\n}\n")
	wantPrint(t, in("0xffffffff; 0x80000000; 0;"), "func main() {\n\t4294967295;\n\t2147483648;\n\t0;\n}\n")
	wantPrint(t, "array a[2]; "+in("a[a[(1+2)]*3]; a[0] = (a[1]); (a[1]) + 1;"), "array a[2];\nfunc main() {\n\ta[a[1 + 2] * 3];\n\ta[0] = a[1];\n\ta[1] + 1;\n}\n")
}

// TestBracketsMustStand: without any of them a value is another one, or none.
func TestBracketsMustStand(t *testing.T) {
	values := []string{"-(1 + 2)", "(1 + 2) * 3", "1 - (2 - 3)", "1 * (2 * 3)", "1 << (2 << 3)", "!(!(1 || 2) && 3)", "(1 == 2) == (3 == 4)", "((1 || 2) && 3) | 4", "~(-(1 % 2) / (3 / (4 * 5)))"}
	for _, v := range values {
		x := parsed(t, in(v+";"))
		text, _ := rill.Print(x)
		for i := range text {
			if text[i] != '(' || i < len("func main()") {
				continue
			}
			end := bracketEnd(text, i)
			bare := text[:i] + " " + text[i+1:end] + " " + text[end+1:]
			if y, e, _ := rill.Parse(bare); e == api.OK && same(x, y) {
				t.Errorf("%q is printed as %q, and is %q too", v, text, bare)
			}
		}
	}
}

// bracketEnd is where the bracket at this place ends.
func bracketEnd(text string, at int) int {
	depth := 0
	for i, c := range text {
		if i < at {
			continue
		}
		switch c {
		case '(':
			depth++
		case ')':
			depth--
		}
		if depth == 0 {
			return i
		}
	}
	return -1
}
