package mean_test

import (
	"fmt"
	"strings"
	"testing"

	"cloister/api"
)

// TestVariables: those of each function are its own, and so are those of each
// call.
func TestVariables(t *testing.T) {
	wantSaid(t, "var x = 1; say(x); x = 2; say(x); x = x + x; say(x);", 1, 2, 4)
	wantSaid(t, "var x = 1; var y = x; x = 5; say(x); say(y);", 5, 1)
	wantSaid(t, "var i = 0; while i < 3 bound 9 { var j = i * 2; say(j); j = 7; i = i + 1; } say(i);", 0, 2, 4, 3)
	wantSaid(t, "var x = 1; if 1 { x = 2; var y = x; y = 3; } say(x);", 2)
	wantSaid(t, "var x = 4294967295; say(x); x = x + 1; say(x);", 4294967295, 0)
	wantProgramSaid(t, "func f() { var x = 5; x = x + 1; say(x); } func main() { var x = 1; f(); f(); say(x); }", 6, 6, 1)
	wantProgramSaid(t, "func f(x) { x = x + 1; return x; } func main() { var x = 1; say(f(x)); say(f(x)); say(x); }", 2, 2, 1)
	wantProgramSaid(t, "func g(x, y) { x = 9; y = 9; } func f(x, y) { g(y, x); say(x); say(y); } func main() { f(1, 2); }", 1, 2)
	wantProgramSaid(t, "func g(a) { var b = a * 10; return b; } func f(a) { var b = a + 1; say(g(b)); say(a); return b; } func main() { say(f(f(1))); }", 20, 1, 30, 2, 3)
	wantProgramSaid(t, "func f(n) { if n { var x = 7; return x; } var y = 0; return y; } func main() { say(f(1)); say(f(0)); }", 7, 0)
}

// TestParameters come in their order, up to six.
func TestParameters(t *testing.T) {
	wantProgramSaid(t, "func f(a) { say(a); } func main() { f(7); }", 7)
	wantProgramSaid(t, "func f(a, b) { say(a); say(b); } func main() { f(7, 8); }", 7, 8)
	wantProgramSaid(t, "func f(a, b, c, d, e, g) { say(g); say(e); say(d); say(c); say(b); say(a); } func main() { f(1, 2, 3, 4, 5, 6); }", 6, 5, 4, 3, 2, 1)
	wantRun(t, "func f(a, b, c) { return a - b * c; } func main() { say(f(say(1), say(2), say(3))); }", "15 8(1) 8(2) 8(3) 8(4294967266)", 10, 8, 5)
}

// TestArrays: they are everybody's, all noughts at first, and nothing beyond
// them is anywhere.
func TestArrays(t *testing.T) {
	with := func(s string) string { return "array a[3]; array b[1]; array c[512]; func main() { " + s + " }" }
	wantProgramSaid(t, with("say(a[0]); say(a[2]); say(b[0]); say(c[511]); say(c[0]);"), 0, 0, 0, 0, 0)
	wantProgramSaid(t, with("a[0] = 1; a[1] = 2; a[2] = 3; b[0] = 4; c[511] = 5; say(a[0]); say(a[1]); say(a[2]); say(b[0]); say(c[511]); say(c[510]);"), 1, 2, 3, 4, 5, 0)
	wantProgramSaid(t, with("a[3] = 1; b[1] = 2; c[512] = 3; a[4294967295] = 4; a[2147483648] = 5; say(a[3]); say(b[1]); say(c[512]); say(a[4294967295]); say(a[2147483648]); say(a[0]); say(b[0]); say(c[0]);"), 0, 0, 0, 0, 0, 0, 0, 0)
	wantProgramSaid(t, with("a[0] = 9; a[0 - 1] = 7; say(a[a[0] - 9]); say(a[0 - 3]); say(a[65536]);"), 9, 0, 0)
	wantProgramSaid(t, with("a[1] = 1; a[a[1]] = 2; say(a[1]); a[a[1]] = a[1] + 3; say(a[2]); say(a[a[1]]);"), 2, 5, 5)
	wantProgramSaid(t, "array a[2]; func f() { a[0] = a[0] + 1; return a[0]; } func main() { f(); f(); say(f()); say(a[0]); a[0] = 10; say(f()); }", 3, 3, 11)
	wantRun(t, "array a[3]; func main() { a[say(1)] = say(2); say(a[1]); }", "9 8(1) 8(2) 8(20)", 1, 20)
	wantRun(t, "array a[3]; func main() { a[say(1)] = say(2); say(a[say(3)]); }", "10 8(1) 8(2) 8(3) 8(0)", 3, 20, 3)
	wantRun(t, "array a[3]; func f(n) { a[0] = n; return n; } func main() { a[0] = f(5) + f(6); say(a[0]); a[f(0)] = a[0] + 1; say(a[0]); }", "37 8(11) 8(1)")
	for places := range 6 {
		var s strings.Builder
		fmt.Fprintf(&s, "array a[%d]; func main() { var i = 0; while i < 8 bound 8 { a[i] = i + 1; i = i + 1; } i = 0; while i < 8 bound 8 { say(a[i]); i = i + 1; } }", places+1)
		var want []uint32
		for i := range uint32(8) {
			want = append(want, (i+1)*modelTruth(int(i) <= places))
		}
		wantProgramSaid(t, s.String(), want...)
	}
}

// TestIf: what is not 0 is so.
func TestIf(t *testing.T) {
	for value, so := range map[string]bool{"0": false, "1": true, "2": true, "4294967295": true, "2147483648": true, "256": true, "65536": true, "1 - 1": false, "4294967295 + 1": false} {
		s := fmt.Sprintf("if %s { say(1); } else { say(2); } if %s { say(3); } say(4);", value, value)
		want := []uint32{2, 4}
		if so {
			want = []uint32{1, 3, 4}
		}
		wantSaid(t, s, want...)
	}
	wantSaid(t, "if 1 { } else { say(1); } if 0 { say(2); } else { } if 0 { say(3); } say(4);", 4)
	wantSaid(t, "if 1 { if 0 { say(1); } else { say(2); } } else { if 1 { say(3); } } say(4);", 2, 4)
	wantSaid(t, "if 0 { if 0 { say(1); } else { say(2); } } else { if 1 { say(3); say(5); } } say(4);", 3, 5, 4)
}

// TestWhile: a round begins only if the value is not 0, and fewer than the bound
// were begun.
func TestWhile(t *testing.T) {
	wantRun(t, in("while 1 bound 1 { }"), "3")
	wantRun(t, in("while 0 bound 1 { }"), "2")
	wantRun(t, in("while 0 bound 65536 { say(1); }"), "2")
	wantRun(t, in("while 1 bound 2 { say(1); say(2); }"), "17 8(1) 8(2) 8(1) 8(2)")
	wantRun(t, in("while say(1) bound 3 { }"), "6 8(1) 8(1)", 2)
	wantRun(t, in("while say(1) bound 3 { }"), "10 8(1) 8(1) 8(1)", 1, 4294967295, 2147483648, 1)
	wantRun(t, in("var i = 0; while i < 2 bound 2 { i = i + 1; } say(i);"), "22 8(2)")
	wantRun(t, in("var i = 0; while i < 2 bound 3 { i = i + 1; } say(i);"), "25 8(2)")
	wantRun(t, in("var i = 9; while i bound 4 { i = i - 3; } say(i);"), "25 8(0)")
	wantSaid(t, "while 1 bound 2 { while 1 bound 3 { say(1); } say(2); }", 1, 1, 1, 2, 1, 1, 1, 2)
	wantSaid(t, "var i = 3; while i bound 100 { i = i - 1; var j = i; while j bound 100 { say(i * 10 + j); j = j - 1; } }", 22, 21, 11)
	for _, bound := range []int{1, 2, 3, 100, 65535, 65536} {
		got, _ := holdRun(t, parsed(t, in(fmt.Sprintf("var i = 0; while 1 bound %d { i = i + 1; } say(i);", bound))), api.MaxFuel, nil)
		if want := fmt.Sprintf("%d 8(%d)", 6*bound+6, bound); got.String() != want {
			t.Errorf("bound %d: %s, want %s", bound, got, want)
		}
	}
}

// TestForever: rounds without an end, but for halt, return and the fuel.
func TestForever(t *testing.T) {
	wantRun(t, in("forever { say(1); halt(); }"), "7 8(1) 11()")
	wantRun(t, in("forever { if say(1) { halt(); } }"), "15 8(1) 8(1) 8(1) 11()", 0, 0, 1)
	wantRun(t, in("forever { if say(1) { return 5; } }"), "11 8(1) 8(1)", 0, 1)
	wantRun(t, in("say(0); forever { return 1; }"), "7 8(0)")
	for fuel := range 40 {
		got, _ := holdRun(t, parsed(t, in("var i = 0; forever { i = i + 1; }")), fuel, nil)
		if want := fmt.Sprint(fuel, " error 282"); got.String() != want {
			t.Errorf("fuel %d: %s", fuel, got)
		}
	}
	got := run(parsed(t, in("forever { }")), api.MaxFuel, nil)
	if got.String() != "4194304 error 282" {
		t.Errorf("with all fuel: %s", got)
	}
}

// TestReturn: it ends the function in which it stands, from however far within.
func TestReturn(t *testing.T) {
	wantRun(t, in("say(1); return 2; say(3);"), "5 8(1)")
	wantRun(t, in("return say(1);"), "3 8(1)", 5)
	wantProgramSaid(t, "func f() { return 7; } func main() { say(f()); say(f() + f()); f(); }", 7, 14)
	wantProgramSaid(t, "func f() { } func main() { say(f()); }", 0)
	wantProgramSaid(t, "func f(a) { a = 5; a; } func main() { say(f(9)); }", 0)
	wantProgramSaid(t, "func f(n) { if n == 1 { return 10; } else { if n == 2 { return 20; } } } func main() { say(f(1)); say(f(2)); say(f(3)); }", 10, 20, 0)
	wantProgramSaid(t, "func f() { var i = 0; while 1 bound 9 { while 1 bound 9 { i = i + 1; if i == 12 { return i; } } } return 99; } func main() { say(f()); say(f()); }", 12, 12)
	wantProgramSaid(t, "func h() { return 1; } func g() { h(); say(2); } func f() { return g() + 5; } func main() { say(f()); if h() { return 3; } say(4); }", 2, 5)
	wantProgramSaid(t, "func f() { return 4294967295; } func g() { return f() + 3; } func main() { say(f()); say(g()); while 1 bound 2 { say(f()); } }", 4294967295, 2, 4294967295, 4294967295)
	wantRun(t, "func f() { return say(1) + say(2); say(3); } func main() { return f() + say(4); say(5); }", "11 8(1) 8(2) 8(4)")
}

// TestOrder: statements one behind the other, functions wherever they stand.
func TestOrder(t *testing.T) {
	wantSaid(t, "say(1); say(2); say(3);", 1, 2, 3)
	wantSaid(t, "")
	wantProgramSaid(t, "func f() { g(); say(1); } func g() { say(2); h(); } func h() { say(3); } func main() { f(); g(); }", 2, 3, 1, 2, 3)
	wantProgramSaid(t, "func unused() { say(1); } func main() { say(2); }", 2)
	wantProgramSaid(t, "func main2() { say(1); } func main() { main2(); say(2); }", 1, 2)
}
