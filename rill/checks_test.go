package rill_test

import (
	"fmt"
	"strings"
	"testing"

	"cloister/api"
	"cloister/rill"
)

// TestTwice: each name at the mark is another one's ahead of it, or an array's or
// a function's anywhere.
func TestTwice(t *testing.T) {
	for _, s := range []string{
		"array a[1]; @array a[2]; func main() { }",
		"array a[1]; array b[1]; @array a[2]; func b() { } func main() { }",
		"array a[1]; @func a() { } func main() { }",
		"array main[1]; @func main() { }",
		"func f() { } @func f() { } func main() { }",
		"func f() { } func g() { } @func f() { } func main() { }",
		"func main() { } @func main() { }",
		"func f(@f) { } func main() { }",
		"func f(x, @x) { } func main() { }",
		"func f(x, y, z, @y, x) { } func main() { }",
		"array a[1]; func f(@a) { } func main() { }",
		"func f(@main) { } func main() { }",
		"func f(@g) { } func g() { } func main() { }",
		"func f() { } func g(@f) { } func main() { }",
		"func f(x) { @var x = 1; } func main() { }",
		"func f(x) { if 1 { @var x = 1; } } func main() { }",
		"func f() { @var f = 1; } func main() { }",
		"func f() { @var g = 1; } func g() { } func main() { }",
		"func main() { @var main = 1; }",
		"array a[1]; func main() { @var a = 1; }",
		"func main() { var x = 1; @var x = 2; }",
		"func main() { var x = 1; var y = 2; @var x = 2; }",
		"func main() { var x = 1; if 1 { @var x = 2; } }",
		"func main() { if 1 { var x = 1; } @var x = 2; }",
		"func main() { if 1 { var x = 1; } else { @var x = 2; } }",
		"func main() { while 1 bound 1 { var x = 1; } while 1 bound 1 { @var x = 2; } }",
		"func main() { if 1 { if 1 { var x = 1; } } forever { @var x = 2; } }",
	} {
		wantPlace(t, s, api.ErrRillTwice)
	}
	for _, s := range []string{
		"func f(x) { } func g(x) { } func main() { var x = 1; }",
		"func f() { var x = 1; } func g() { var x = 1; } func main() { var x = 1; }",
		"func f(x) { } func g() { if 1 { var x = 1; } } func main() { }",
		"array a[1]; array A[1]; func b() { } func B() { } func main() { var c = 1; var C = 2; }",
		"array main1[1]; func main2() { } func main() { var main3 = 1; }",
	} {
		wantOK(t, s)
	}
}

// TestSight: a variable is seen behind what it begins with, in its block and those
// within.
func TestSight(t *testing.T) {
	for _, s := range []string{
		"func main() { @x; }", "func main() { @x = 1; }", "func main() { var x = @x; }", "func main() { var x = 1 + @x; }", "func main() { var y = 1; var x = y + say(@x); }",
		"func main() { say(@x); var x = 1; }", "func main() { @x = 1; var x = 1; }",
		"func main() { if 1 { var x = 1; } @x; }", "func main() { if 1 { var x = 1; } @x = 1; }", "func main() { if 1 { var x = 1; } else { @x; } }", "func main() { if 1 { @x; } var x = 1; }",
		"func main() { while 1 bound 1 { var x = 1; } @x; }", "func main() { while @x bound 1 { var x = 1; } }", "func main() { while 1 bound 1 { @x; var x = 1; } }", "func main() { if @x { var x = 1; } }",
		"func main() { if 1 { if 1 { var x = 1; } @x; } }", "func main() { forever { @x; var x = 1; } }",
		"func f(x) { } func main() { @x; }", "func f() { var x = 1; } func main() { @x = 1; }", "func f() { @x; } func g(x) { } func main() { }", "func f() { @x = 1; } func main() { var x = 1; }",
		"array a[1]; func main() { @a; }", "array a[1]; func main() { @a = 1; }", "array a[1]; func main() { a[@a]; }", "func f() { } func main() { @f; }", "func f() { } func main() { @f = 1; }", "func main() { @main; }",
		"func main() { var x = 1; @X; }",
	} {
		wantPlace(t, s, api.ErrRillName)
	}
	for _, s := range []string{
		"func main() { var x = 1; x; x = x; }", "func main() { var x = 1; var y = x; }", "func main() { var x = 1; if x { x; } else { x = 2; } while x bound 1 { x; } forever { x; } }",
		"func main() { if 1 { var x = 1; x; if x { x; } x; } }", "func main() { while 1 bound 1 { var x = 1; if 1 { var y = x; y = x + y; } x = 2; } }",
		"func f(x, y) { x = y; if x { x; var z = y; z; } return x; } func main() { }", "func f(x) { return x; } func main() { }", "func main() { forever { var x = 1; x; } }",
	} {
		wantOK(t, s)
	}
}

// TestNamesOfArraysAndFunctions are known everywhere, as what they are.
func TestNamesOfArraysAndFunctions(t *testing.T) {
	for _, s := range []string{
		"func main() { @a[1]; }", "func main() { @a[1] = 2; }", "func main() { var x = 1; @x[1]; }", "func main() { var x = 1; @x[1] = 2; }", "func f() { } func main() { @f[1]; }", "func f() { } func main() { @f[1] = 2; }", "func f(x) { @x[0]; } func main() { }", "func main() { @main[1]; }",
		"array a[1]; func main() { @b[1]; }", "array a[1]; func main() { a[@b[1]]; }", "array a[1]; func main() { @b[a[1]] = 1; }", "array a[1]; func main() { a[1] = @b[2]; }",
		"func main() { @f(); }", "func main() { var f = 1; @f(); }", "array f[1]; func main() { @f(); }", "func f(x) { @x(); } func main() { }", "func main() { say(@f()); }", "func main() { say(1, 2, @f()); }",
		"func main() { @main(); }", "func f() { @main(); } func main() { }", "func f() { return 1 + @main(); } func main() { }", "func main() { @main(1, 2); }", "func main() { if 1 { @main(); } }",
	} {
		wantPlace(t, s, api.ErrRillName)
	}
	for _, s := range []string{
		"array a[1]; func f() { a[1] = a[0]; } func main() { a[a[0]] = a[1] + f(); }", "func f() { g(); } func g() { } func main() { f(); }", "func f() { } func main() { -f(); }",
	} {
		wantOK(t, s)
	}
}

// TestMain: the last function is called so.
func TestMain(t *testing.T) {
	for _, s := range []string{"", "array a[1];", "array main[1];", "func f() { }", " func f() { }", "# x\n func f() { } func g() { }", "func main() { } func f() { }", "func Main() { }", "func main_() { }", "func f() { } func main() { } func g() { }"} {
		wantParse(t, s, api.ErrRillName, 0)
	}
	wantParse(t, " \n", api.ErrRillName, 0)
	wantParse(t, "func f() { x; } func g() { }", api.ErrRillName, 0)
	wantPlace(t, "@func main(x) { }", api.ErrRillCount)
	wantPlace(t, " func f(x) { } @func main(x, y) { }", api.ErrRillCount)
	for _, x := range []api.Term{program(), program(array("main", 1)), program(function("f", block()))} {
		if e := rill.Check(x); e != api.ErrRillName {
			t.Errorf("Check(%+v) = %d", x, e)
		}
		holdTree(t, x)
	}
}

// TestCounts: of values that are handed to functions.
func TestCounts(t *testing.T) {
	for n := range 7 {
		list := strings.TrimSuffix("a, b, c, d, e, g, "[:3*n], ", ")
		for given := range 9 {
			values := strings.TrimSuffix(strings.Repeat("1, ", given), ", ")
			s := fmt.Sprintf("func f(%s) { } func main() { say(2 + @f(%s)); }", list, values)
			e := api.OK
			if n != given {
				e = api.ErrRillCount
			}
			wantPlaceOr(t, s, e)
		}
	}
	for _, s := range []string{"func main() { say(@who(1)); }", "func main() { @say(1, who(1)); }", "func f() { @g(1); } func g() { } func main() { f(1); }", "func main() { if @say() { } }", "func main() { write(1, @read()); }", "func main() { -(@send(1)); }"} {
		wantPlace(t, s, api.ErrRillCount)
	}
}

// TestCycles: the first function that calls itself.
func TestCycles(t *testing.T) {
	for _, s := range []string{
		"@func f() { f(); } func main() { }",
		" @func f() { f(); } func main() { }",
		"@func f() { if 1 { while 1 bound 1 { return -say(1 + f()); } } } func main() { }",
		"@func f() { g(); } func g() { f(); } func main() { }",
		"@func f() { g(); } func g() { h(); } func h() { f(); } func main() { }",
		"func e() { f(); } @func f() { g(); } func g() { f(); } func main() { e(); }",
		"func e() { } func e2() { h(); } @func f() { g(); } func g() { h(); } func h() { g(); f(); } func main() { }",
		"func a() { b(); } func b() { c(); } @func c() { d(); } func d() { c(); } func main() { }",
		"func a() { c(); } func b() { a(); } @func c() { c(); } func main() { }",
		"@func f(x) { f(f(x)); } func main() { }",
		"array a[1]; @func f(x) { a[f(1)] = 2; } func main() { }",
		"func f() { } @func g() { f(); g(); } func main() { }",
		"@func a() { d(); } func b() { a(); } func c() { b(); } func d() { c(); } func main() { }",
		"@func d() { c(); } func c() { b(); } func b() { a(); } func a() { d(); } func main() { }",
	} {
		wantPlace(t, s, api.ErrRillCycle)
	}
	for _, s := range []string{
		"func f() { g(); g(); } func g() { h(); } func h() { } func main() { f(); g(); h(); }",
		"func h() { } func g() { h(); } func f() { h(); g(); } func main() { f(); }",
		"func f(x) { } func main() { f(f(f(1))); }",
		"func f() { say(1); } func main() { f(); }",
	} {
		wantOK(t, s)
	}
}

// TestLongCycle goes over all functions there may be.
func TestLongCycle(t *testing.T) {
	for _, back := range []int{0, 1, 31, 32, 62} {
		s := ""
		for i := range 63 {
			next := i + 1
			if i == 62 {
				next = back
			}
			s += map[bool]string{true: "@"}[i == back] + fmt.Sprintf("func f%d() { f%d(); } ", i, next)
		}
		wantPlace(t, s+in(""), api.ErrRillCycle)
	}
	s := ""
	for i := range 62 {
		s += fmt.Sprintf("func f%d() { f%d(); f62(); } ", i, i+1)
	}
	wantOK(t, s+"func f62() { } "+in("f0();"))
}

// TestOrderOfErrors: what is named first is told, wherever it stands.
func TestOrderOfErrors(t *testing.T) {
	type fault struct {
		e             api.Errno
		ahead, inside string // of the function main
	}
	all := []fault{
		{api.ErrRillTree, "", "if 1 { @forever { } }"},
		{api.ErrRillDeep, "", "@" + strings.Repeat("1+", 36) + "1;"},
		{api.ErrRillRange, "", "@while 1 bound 0 { }"},
		{api.ErrRillTwice, "", "var twice = 1; @var twice = 2;"},
		{api.ErrRillName, "", "say(@nobody);"},
		{api.ErrRillCount, "", "@say();"},
		{api.ErrRillCycle, "@func round() { round(); } ", ""},
	}
	for i, first := range all {
		for j, second := range all {
			if i >= j {
				continue
			}
			second.ahead, second.inside = strings.ReplaceAll(second.ahead, "@", ""), strings.ReplaceAll(second.inside, "@", "")
			wantPlace(t, first.ahead+second.ahead+in(first.inside+" "+second.inside), first.e)
			wantPlace(t, second.ahead+first.ahead+in(second.inside+" "+first.inside), first.e)
			wantPlace(t, first.ahead+second.ahead+"func f() { "+second.inside+" } "+in(first.inside), first.e)
		}
		wantPlace(t, first.ahead+in(first.inside), first.e)
	}
}

// TestFirstOfOneError: of one error the first term in the order of the tree.
func TestFirstOfOneError(t *testing.T) {
	for s, e := range map[string]api.Errno{
		"func main() { @forever { } forever { } forever { } }":                                                api.ErrRillTree,
		"func f() { if 1 { @forever { forever { } } } } func main() { forever { } }":                          api.ErrRillTree,
		"@array a[0]; array b[0]; func f(a1, b1, c1, d1, e1, f1, g1) { } func main() { while 1 bound 0 { } }": api.ErrRillRange,
		"@func f(a1, b1, c1, d1, e1, f1, g1) { while 1 bound 0 { } } func main() { }":                         api.ErrRillRange,
		"func main() { @while 1 bound 0 { while 1 bound 0 { } } }":                                            api.ErrRillRange,
		"func f(x, @x, x) { var x = 1; } func main() { }":                                                     api.ErrRillTwice,
		"func f() { var x = 1; @var x = 1; } func f() { } func main() { }":                                    api.ErrRillTwice,
		"func f() { } @func f() { var x = 1; var x = 1; } func main() { }":                                    api.ErrRillTwice,
		"func main() { @x = y; z; }":                                                                          api.ErrRillName,
		"func main() { @f(x); }":                                                                              api.ErrRillName,
		"func main() { @a[x] = y; }":                                                                          api.ErrRillName,
		"func main() { if @x { y; } else { z; } }":                                                            api.ErrRillName,
		"func main() { say(1 + @x * y); }":                                                                    api.ErrRillName,
		"func f() { @say(who(1), 2); } func main(x) { }":                                                      api.ErrRillCount,
		"@func main(x) { say(); }":                                                                            api.ErrRillCount,
	} {
		wantPlace(t, s, e)
	}
}

// TestPlaces: where each kind of term begins.
func TestPlaces(t *testing.T) {
	for s, e := range map[string]api.Errno{
		"array\n a[1]; #\n @array a[1]; func main() { }":       api.ErrRillTwice,
		" func f() { } \n@func\n f() { } func main() { }":      api.ErrRillTwice,
		"func f(x, # x\n\t@x) { } func main() { }":             api.ErrRillTwice,
		"func main() { var x = 1; @var #\n x = 1; }":           api.ErrRillTwice,
		"func main() {\r\n\t@x\n=\n1; }":                       api.ErrRillName,
		"func main() { @x [ 1 ] = 1; }":                        api.ErrRillName,
		"func main() { ( ( @x [ 1 ] ) ); }":                    api.ErrRillName,
		"func main() { ( ( @x ) ); }":                          api.ErrRillName,
		"func main() { ( ( @f ( 1 ) ) ); }":                    api.ErrRillName,
		"func main() { (1 + 2) * (3 - (4 - @x)); }":            api.ErrRillName,
		"func main() { ((@say( 1, 2 ))) + 1; }":                api.ErrRillCount,
		"func main() { say(1); @while 1 bound 0 { } }":         api.ErrRillRange,
		"func main() { say(1); @forever { } say(2); }":         api.ErrRillTree,
		"func main() { say(1); if 1 { } else { @forever{} } }": api.ErrRillTree,
	} {
		wantPlace(t, s, e)
	}
	// A binary value begins where its left one does, brackets not counted.
	deep := func(inner string) string { return in(strings.Repeat("-", 34) + inner + ";") }
	wantPlaceAt := func(s string, at int) { t.Helper(); wantParse(t, s, api.ErrRillDeep, at) }
	wantPlaceAt(deep("-(1 + 2)"), 14+36)
	wantPlaceAt(deep("-((1) + 2)"), 14+37)
	wantPlaceAt(deep("--1"), 14+36)
	wantPlaceAt(deep("--((1))"), 14+38)
	wantPlaceAt(deep("-say(1)"), 14+39)
}

// TestForever: the last statement of the last function's block, and nowhere else.
func TestForever(t *testing.T) {
	for _, s := range []string{
		"func main() { @forever { } say(1); }", "func main() { @forever { } forever { } }", "func main() { forever { @forever { } } }", "func main() { if 1 { @forever { } } }", "func main() { if 1 { } else { @forever { } } }", "func main() { while 1 bound 1 { @forever { } } }",
		"func f() { @forever { } } func main() { }", "func f() { @forever { } } func main() { forever { } }", "func main() { @forever { } } func f() { }", "func main() { forever { if 1 { @forever { } } } }", "func f() { say(1); @forever { } say(1); } func main() { forever { forever { } } }",
	} {
		wantPlace(t, s, api.ErrRillTree)
	}
	for _, s := range []string{"func main() { forever { } }", "func main() { say(1); forever { say(2); } }", "func f() { } func main() { if 1 { } forever { if 1 { } } }", "func main() { forever { return 1; } }"} {
		wantOK(t, s)
	}
	wantParse(t, "func f() { forever { } }", api.ErrRillName, 0)
}
