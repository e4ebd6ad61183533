package mean_test

import (
	"fmt"
	"math/rand"
	"slices"
	"strings"
	"testing"

	"cloister/api"
)

// TestSteps: one ahead of each statement, each value and each round, and of
// nothing else.
func TestSteps(t *testing.T) {
	with := "array a[2]; func f() { } func g(x, y) { return x; } "
	for s, want := range map[string]int{
		"":                           0,
		"1;":                         2,
		"var x = 1;":                 2,
		"var x = 1; x = 2;":          4,
		"var x = 1; x;":              4,
		"a[1] = 2;":                  3,
		"a[7] = 2;":                  3,
		"a[1];":                      3,
		"a[7];":                      3,
		"a[a[a[1]]];":                5,
		"return 1;":                  2,
		"-1;":                        3,
		"---1;":                      5,
		"((1));":                     2,
		"1 + 2;":                     4,
		"1 + 2 + 3;":                 6,
		"1 / 0;":                     4,
		"0 && 2;":                    3,
		"1 && 2;":                    4,
		"0 || 2;":                    4,
		"1 || 2;":                    3,
		"who();":                     2,
		"say(1);":                    3,
		"write(1, 2);":               4,
		"read(1);":                   3,
		"told();":                    2,
		"halt();":                    2,
		"f();":                       2,
		"g(1, 2);":                   6,
		"g(f(), f());":               6,
		"if 0 { 1; }":                2,
		"if 1 { }":                   2,
		"if 1 { 1; }":                4,
		"if 0 { } else { 1; }":       4,
		"if 1 { } else { 1; }":       2,
		"if 1 { if 1 { if 1 { } } }": 6,
		"while 0 bound 9 { }":        2,
		"while 1 bound 1 { }":        3,
		"while 1 bound 9 { }":        19,
		"while 1 bound 2 { 1; }":     9,
		"while 1 bound 2 { while 0 bound 2 { } }": 9,
		"while 1 bound 2 { while 1 bound 2 { } }": 15,
		"while 1 bound 9 { return 1; }":           5,
		"while 1 bound 9 { halt(); }":             5,
		"forever { return 1; }":                   4,
		"forever { halt(); }":                     4,
		"1; 2; 3;":                                6,
	} {
		source := with + in(s)
		x := parsed(t, source)
		for _, fuel := range []int{want, want + 1, plenty, api.MaxFuel} {
			if got, _ := holdRun(t, x, fuel, nil); got.steps != want || got.e != api.OK {
				t.Errorf("%q with fuel %d: %s, want %d", s, fuel, got, want)
			}
		}
		for fuel := range want {
			if got, _ := holdRun(t, x, fuel, nil); got.steps != fuel || got.e != api.ErrMeanFuel {
				t.Errorf("%q with fuel %d: %s, want %d and no fuel", s, fuel, got, fuel)
			}
		}
	}
}

// TestReadTakesNoMoreFuel: the second message of a call needs no step.
func TestReadTakesNoMoreFuel(t *testing.T) {
	x := parsed(t, in("read(1); say(2);"))
	for fuel, want := range []string{"0 error 282", "1 error 282", "2 error 282", "3 2(1) 102(1) error 282", "4 2(1) 102(1) error 282", "5 2(1) 102(1) error 282", "6 2(1) 102(1) 8(2)"} {
		if got, _ := holdRun(t, x, fuel, []uint32{8, 5}); got.String() != want {
			t.Errorf("fuel %d: %s, want %s", fuel, got, want)
		}
	}
}

// TestFuelCuts: with less fuel a run is the beginning of that with more.
func TestFuelCuts(t *testing.T) {
	t.Parallel()
	random := rand.New(rand.NewSource(2803))
	whole, cut := 0, 0
	for range 400 {
		x, answers := anyTree(random, random.Intn(2) == 0), anyAnswers(random)
		most := random.Intn(200)
		last := run(x, most, answers)
		for fuel := range most {
			got := run(x, fuel, answers)
			ends := last.e == api.OK && fuel >= last.steps
			if ends && !got.same(last) {
				t.Fatalf("fuel %d: %s, want %s", fuel, got, last)
			}
			if !ends && (got.steps != fuel || got.e != api.ErrMeanFuel || len(got.calls) > len(last.calls) || !slices.Equal(got.calls, last.calls[:len(got.calls)])) {
				t.Fatalf("fuel %d: %s, a beginning of %s", fuel, got, last)
			}
			if len(got.calls) > 0 && len(got.calls) < len(last.calls) {
				cut++
			}
			if ends {
				whole++
			}
		}
	}
	if whole < 4000 || cut < 4000 {
		t.Errorf("only %d are whole, %d are cut", whole, cut)
	}
}

// TestDeep: values, blocks and functions within one another, as far as may be.
func TestDeep(t *testing.T) {
	wantSaid(t, "say("+strings.Repeat("-", 33)+"~5);", 6)
	var open, end string
	for range 17 {
		open, end = open+"if 1 { ", end+" }"
	}
	wantSaid(t, open+"say(7);"+end+" say(8);", 7, 8)
	s := "func f0(x) { " + open + "return x + 1;" + end + " } "
	for i := 1; i < 63; i++ {
		s += fmt.Sprintf("func f%d(x) { %s say(0 - f%d(x + 1)); %s return x; } ", i, "if 1 { while 1 bound 1 { ", i-1, "} }")
	}
	x := parsed(t, s+"func main() { say(f62(100)); }")
	got, _ := holdRun(t, x, api.MaxFuel, nil)
	if got.e != api.OK || len(got.calls) != 63 || got.calls[0] != "8(4294967133)" || got.calls[1] != "8(4294967135)" || got.calls[62] != "8(100)" {
		t.Errorf("functions: %s", got)
	}
	for fuel := range got.steps {
		holdRun(t, x, fuel, nil)
	}
	halts := strings.Replace(s, "return x + 1;", "halt();", 1)
	holdRun(t, parsed(t, halts+"func main() { say(f62(100)); forever { } }"), api.MaxFuel, nil)
}

// TestLong: as many steps as there may be, in functions that return and loops
// within loops.
func TestLong(t *testing.T) {
	t.Parallel()
	for _, s := range []string{
		"func f(x) { return x + 1; } func main() { var x = 0; while 1 bound 65536 { while 1 bound 65536 { x = f(x); } } }",
		"func f() { while 1 bound 65536 { } } func main() { while 1 bound 65536 { f(); } }",
		"array a[512]; func main() { var i = 0; forever { a[i % 600] = a[i % 512] + 1; i = i + 1; } }",
	} {
		x := parsed(t, s)
		holdRun(t, x, 20000, nil)
		if got := run(x, api.MaxFuel, nil); got.String() != "4194304 error 282" {
			t.Errorf("%s: %s", s, got)
		}
	}
	s := "func f(x) { while 1 bound 9 { return x + 1; } } func main() { var i = 0; while i < 50000 bound 65536 { i = f(i); } say(i); }"
	want := fmt.Sprint(2+1+50000*(3+1+2+1+1+1+1+1+3)+3+3, " 8(50000)")
	if got := run(parsed(t, s), api.MaxFuel, nil); got.String() != want {
		t.Errorf("returned often: %s, want %s", got, want)
	}
}
