package rill_test

import (
	"strings"
	"testing"

	"cloister/api"
	"cloister/rill"
)

// TestSyntax: the first token that cannot stand there, at the mark.
func TestSyntax(t *testing.T) {
	for _, s := range []string{
		"@;", "@x", "@say(1);", "@main() { }", "@}", "@var x = 1;", "@1", "@if 1 { }",
		"array@", "array a@", "array a[@", "array a[1@", "array a[1]@", "array a[1]; @)",
		"array @[1];", "array a @(1);", "array a[@x];", "array a[1 @+ 1];", "array a[1] @= 2;", "array a[1]@, b[1];", "array a[1]; @; func main() { }",
		"func@", "func f@", "func f(@", "func f(x@", "func f(x,@", "func f(x)@", "func f()@", "func f() {@", "func f() { } @1",
		"func @(", "func f @{ }", "func f(@{", "func f(@1) { }", "func f(x @y) { }", "func f(x,@) { }", "func f(@,x) { }", "func f(x@[1]) { }", "func f(x)@; { }", "func f() @return 1;", "func f() { }@; func main() { }",
		"func main() { } @array a[1];", "func f() { } @array a[1]; func main() { }", "func main() { @func f() { } }", "func main() { @array a[1]; }", "func main() { } @}",
	} {
		wantPlace(t, s, api.ErrRillSyntax)
	}
}

// TestSyntaxOfStatements: in a function, with x a variable and a an array.
func TestSyntaxOfStatements(t *testing.T) {
	const before = "array a[1]; func main() { var x = 1; "
	for _, s := range []string{
		"@;", "@{ }", "@]", "@)", "@=", "@,", "@else { }", "@bound 1 { }", "@+ 1;", "@* 1;", "@== 1;",
		"var @;", "var y@;", "var y @1;", "var y = @;", "var y = 1 @}", "var y = 1@, z = 2;", "var @1 = 1;", "var @if = 1;", "var @say = 1;", "var @= 1;", "var y @== 1;", "var y = @var z = 1;", "var y@[1] = 1;", "var @-y = 1;", "var @(y) = 1;",
		"x @1;", "x @y;", "x = @;", "x = 1 @= 2;", "x = x @= 2;", "x@]", "x + @= 1;", "x = @{ }", "x = @if;", "x @bound;", "x@, 1;",
		"a[@] = 1;", "a[1@; = 1;", "a[1] = @;", "a[1] @1;", "a[1]@[1] = 1;", "a[1] = 2 @= 3;", "a[x @= 1] = 1;", "a[1@, 2] = 1;", "a@] = 1;",
		"(x) @= 1;", "((x)) @= 1;", "(a[1]) @= 1;", "(a)@[1] = 1;", "-x @= 1;", "-a[1] @= 1;", "x + 1 @= 2;", "1 + x @= 2;", "1 @= 2;", "f(1) @= 2;", "say(1) @= 2;", "say @= 2;", "x + a[1] @= 2;", "a[1] + x @= 2;", "(x @= 1);",
		"if @{ }", "if 1 @;", "if 1 @say(1);", "if 1 { } else @;", "if 1 { } else @if 2 { }", "if 1 { } else { } @else { }", "if 1 { }@;", "if x @= 1 { }", "if @; { }", "if 1 @bound 1 { }", "if (1 @{ }", "if 1 @}",
		"while @{ }", "while 1 @{ }", "while 1 bound @{ }", "while 1 bound @x { }", "while 1 bound @-1 { }", "while 1 bound 1 @;", "while 1 bound 1 @say(1);", "while 1 bound 1 { } @else { }", "while 1 @1 bound 1 { }", "while @bound 1 { }", "while 1 bound @(1) { }",
		"forever @;", "forever @1 { }", "forever { } @else { }", "forever { }@;", "forever @(1) { }",
		"return@;", "return @}", "return 1 @}", "return 1 @2;", "return 1 @= 2;", "return @return 1;", "return x @= 1;",
		"1 +@;", "1 + @* 2;", "1 @! 2;", "1 @~ 2;", "1 @(2);", "1@[2];", "(1@;", "(@);", "(@}", "((1)@;", "1@);", "1@];", "1@, 2;", "(1@, 2);",
		"say(@,);", "say(1,@);", "say(1 @2);", "say(1@;", "say(@;", "say @}", "say(1)@(2);", "say(1)@[2];", "say(1) @say(2);", "say(@+1);", "say(a[1@);", "say(1@];", "say(@if);", "who(@,1);", "x(@}", "a[@}", "x @}", "-@;", "-@}", "~@* 1;", "say(1 @who);", "say(x @= 1);",
	} {
		wantPlace(t, before+s, api.ErrRillSyntax)
		wantPlace(t, before+"say(1); "+s+" } func g() { }", api.ErrRillSyntax)
		wantPlace(t, before+"while 1 bound 1 { say(1); "+s, api.ErrRillSyntax)
	}
}

// TestEndOfSource: each beginning of a source that is none by itself is wrong at
// its end, or where a token was cut.
func TestEndOfSource(t *testing.T) {
	s := "array ab[0x10]; func f(x1, y1) { var zz = -x1; if zz < 12 { ab[1] = 2; } else { zz = ab[y1]; } return (zz); } func main() { while !0 bound 10 { say(f(1, 2)); } forever { wait(); } }\n"
	whole := 0
	for n := range s {
		_, e, at := rill.Parse(s[:n])
		holdParse(t, s[:n])
		if e == api.OK {
			whole++
		}
		if e == api.ErrRillSyntax && at == n && strings.TrimSpace(s[:n]) != "" {
			wantParse(t, s[:n]+" \n\t#", e, n+4)
		}
	}
	if whole != 1 {
		t.Errorf("%d beginnings are programs", whole)
	}
	wantParse(t, "", api.ErrRillName, 0)
	wantParse(t, " \n", api.ErrRillName, 0)
	wantParse(t, "#", api.ErrRillName, 0)
}

// TestTokensCountInTheirOrder: what is wrong farther to the left, and of one token
// what is named first.
func TestTokensCountInTheirOrder(t *testing.T) {
	wantPlace(t, "func main() { @1x ) }", api.ErrRillToken)
	wantPlace(t, "func main() { @) \x00 }", api.ErrRillSyntax)
	wantPlace(t, "func main() { say(@\x00 ) ) }", api.ErrRillToken)
	wantPlace(t, "func main() { say(@4294967296 \x00 }", api.ErrRillRange)
	wantPlace(t, "func main() { say(@4294967296x \x00 }", api.ErrRillToken)
	wantPlace(t, "func main() { say @4294967296 }", api.ErrRillRange)
	wantPlace(t, "func main() { say @1x }", api.ErrRillToken)
	wantPlace(t, "func main() { say @\x00 }", api.ErrRillToken)
	wantPlace(t, "@\x00", api.ErrRillToken)
	wantPlace(t, "@99999999999", api.ErrRillRange)
	wantPlace(t, "func main() { 1 + 1 @= \x00 }", api.ErrRillSyntax)
	wantPlace(t, "func main() { (x) @= \x00 }", api.ErrRillSyntax)
	wantPlace(t, "func main() { x = @\x00 }", api.ErrRillToken)
	wantPlace(t, "func main() { @abcdefghijklmnopq \x00 }", api.ErrRillSyntax)
	wantPlace(t, "func main() { say @; \x00 }", api.ErrRillSyntax)
	wantPlace(t, "func main() { } @\x00", api.ErrRillToken)
	wantPlace(t, "func main() { if 1 { } @\x00", api.ErrRillToken)
	// What is wrong with the tree is told when all tokens are read.
	wantPlace(t, "func main() { x = 1; forever { } y = 2; @)", api.ErrRillSyntax)
	wantPlace(t, "array a[0]; func f() { f(); } @\x00", api.ErrRillToken)
}
