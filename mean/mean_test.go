package mean_test

import (
	"fmt"
	"slices"
	"strings"
	"testing"

	"cloister/api"
	"cloister/mean"
	"cloister/rill"
)

// plenty is fuel for all programs here that come to an end.
const plenty = 1000

// listener is an Outer that notes just how it was asked.
type listener struct {
	answers []uint32
	calls   []string
}

func (l *listener) Call(number uint32, args ...uint32) uint32 {
	n := uint32(0)
	if len(l.calls) < len(l.answers) {
		n = l.answers[len(l.calls)]
	}
	var words []string
	for _, a := range args {
		words = append(words, fmt.Sprint(a))
	}
	l.calls = append(l.calls, fmt.Sprintf("%d(%s)", number, strings.Join(words, ",")))
	return n
}

// outcome is what a run did.
type outcome struct {
	steps int
	e     api.Errno
	calls []string
}

func (o outcome) String() string {
	s := strings.Join(append([]string{fmt.Sprint(o.steps)}, o.calls...), " ")
	if o.e != api.OK {
		s += fmt.Sprint(" error ", o.e)
	}
	return s
}

func (o outcome) same(other outcome) bool {
	return o.steps == other.steps && o.e == other.e && slices.Equal(o.calls, other.calls)
}

func run(x api.Term, fuel int, answers []uint32) outcome {
	l := &listener{answers: answers}
	n, e := mean.Run(x, fuel, l)
	return outcome{n, e, l.calls}
}

// holdRun asks the model too.
func holdRun(t *testing.T, x api.Term, fuel int, answers []uint32) (outcome, map[string]int) {
	t.Helper()
	l := &listener{answers: answers}
	n, e, done := modelRun(x, fuel, l)
	want := outcome{n, e, l.calls}
	got := run(x, fuel, answers)
	if !got.same(want) {
		text, _ := rill.Print(x)
		t.Fatalf("fuel %d, answers %.200s:\n%.2000s\n%.1000s, want\n%.1000s", fuel, fmt.Sprint(answers), text, got, want)
	}
	return got, done
}

func parsed(t *testing.T, s string) api.Term {
	t.Helper()
	x, e, at := rill.Parse(s)
	if e != api.OK {
		t.Fatalf("Parse(%.1000q) = %d, %d", s, e, at)
	}
	return x
}

// wantRun asks what a source does, and holds the model against it too.
func wantRun(t *testing.T, s, want string, answers ...uint32) {
	t.Helper()
	got, _ := holdRun(t, parsed(t, s), plenty, answers)
	if got.String() != want {
		t.Errorf("%.1000s:\n%s, want\n%s", s, got, want)
	}
}

// in is a program of this main function.
func in(s string) string { return "func main() { " + s + " }" }

// wantSaid asks what all calls of say were asked, of main's statements.
func wantSaid(t *testing.T, s string, want ...uint32) {
	t.Helper()
	wantProgramSaid(t, in(s), want...)
}

func wantProgramSaid(t *testing.T, s string, want ...uint32) {
	t.Helper()
	got, _ := holdRun(t, parsed(t, s), plenty, nil)
	var calls []string
	for _, n := range want {
		calls = append(calls, fmt.Sprintf("8(%d)", n))
	}
	if got.e != api.OK || !slices.Equal(got.calls, calls) {
		t.Errorf("%.1000s:\n%s, want\n%s", s, got, calls)
	}
}

// TestExamples are the chapter's.
func TestExamples(t *testing.T) {
	wantRun(t, in("say(2 + 3);"), "5 8(5)")
	wantRun(t, in("while 1 bound 3 { say(1); }"), "16 8(1) 8(1) 8(1)")
	wantRun(t, in("while 0 bound 3 { say(1); }"), "2")
	wantRun(t, in("say(read(0));"), "4 2(0) 102(0) 8(42)", 8, 42)
	wantRun(t, in("say(read(0));"), "4 2(0) 8(0)", 4294967292)
	wantRun(t, "func f() { return 1; say(2); } func main() { say(f() && 5); say(0 && f()); }", "11 8(1) 8(0)")
	if got := run(parsed(t, in("forever { }")), 10, nil); got.String() != "10 error 282" {
		t.Errorf("forever: %s", got)
	}
}

// TestArguments: none of these asks the one outside for anything.
func TestArguments(t *testing.T) {
	x := parsed(t, in("say(1);"))
	for _, fuel := range []int{-1, -2, -1 << 63, 4194305, 4194306, 1<<63 - 1, 1 << 32, -1 << 32} {
		if got := run(x, fuel, nil); got.String() != "0 error 281" {
			t.Errorf("fuel %d: %s", fuel, got)
		}
	}
	for _, fuel := range []int{-1, 0, 1, 1000, 4194304, 4194305} {
		if n, e := mean.Run(x, fuel, nil); n != 0 || e != api.ErrMeanArg {
			t.Errorf("fuel %d, nobody outside: %d, %d", fuel, n, e)
		}
	}
	if got := run(x, 4194304, nil); got.String() != "3 8(1)" {
		t.Errorf("with all fuel: %s", got)
	}
	if got := run(x, 0, nil); got.String() != "0 error 282" {
		t.Errorf("without fuel: %s", got)
	}
	if got := run(parsed(t, in("")), 0, nil); got.String() != "0" {
		t.Errorf("nothing to be done, without fuel: %s", got)
	}
}

// TestTrees: what layer 27 refuses is refused ahead of all else.
func TestTrees(t *testing.T) {
	trees := map[string]api.Term{"nothing": {}, "a number": {Kind: api.TermNumber, N: 3}, "no function": {Kind: api.TermProgram}, "a block": {Kind: api.TermBlock}, "no kind": {Kind: -1}}
	for s, change := range map[string]func(x *api.Term){
		in("say(1);"):                               func(x *api.Term) { x.Kids[0].Text = "nomain" },
		in("say(2);"):                               func(x *api.Term) { x.Kids[0].Kids[0].Kids[0].Kids[0].Kids = nil },
		in("say(3);"):                               func(x *api.Term) { x.Kids[0].Kids[0].Kids[0].Kids[0].Text = "told" },
		in("1;"):                                    func(x *api.Term) { x.Kids[0].Kids[0].Kids[0].Kids[0].Kind = api.TermName },
		in("1 + 2;"):                                func(x *api.Term) { x.Kids[0].Kids[0].Kids[0].Kids[0].Text = "=" },
		in("-2;"):                                   func(x *api.Term) { x.Kids[0].Kids[0].Kids[0].Kids[0].Text = "+" },
		in("while 1 bound 65536 { }"):               func(x *api.Term) { x.Kids[0].Kids[0].Kids[0].N++ },
		in("while 1 bound 1 { }"):                   func(x *api.Term) { x.Kids[0].Kids[0].Kids[0].N-- },
		"array a[512]; " + in("say(a[0]);"):         func(x *api.Term) { x.Kids[0].N++ },
		"array a[1]; " + in("say(a[0]);"):           func(x *api.Term) { x.Kids[0].Text = "b" },
		in("var x = 1; x = 2;"):                     func(x *api.Term) { x.Kids[0].Kids[0].Kids[1].Text = "y" },
		in("var x = 1; var y = 2;"):                 func(x *api.Term) { x.Kids[0].Kids[0].Kids[1].Text = "x" },
		"func f() { } " + in("f();"):                func(x *api.Term) { x.Kids[1].Kids[0].Kids[0].Kids[0].Text = "g" },
		"func f() { say(1); } " + in("f();"):        func(x *api.Term) { x.Kids[0].Kids[0].Kids[0].Kids[0] = api.Term{Kind: api.TermCall, Text: "f"} },
		in("forever { }"):                           func(x *api.Term) { b := &x.Kids[0].Kids[0]; b.Kids = append(b.Kids, b.Kids[0]) },
		in("if 1 { }"):                              func(x *api.Term) { s := &x.Kids[0].Kids[0].Kids[0]; s.Kids = s.Kids[:1] },
		in("who();"):                                func(x *api.Term) { s := &x.Kids[0].Kids[0].Kids[0]; s.Kids[0].N = 1 },
		in(strings.Repeat("1; ", 1997) + "say(1);"): func(x *api.Term) { b := &x.Kids[0].Kids[0]; b.Kids = append(b.Kids, b.Kids[0]) },
	} {
		x := parsed(t, s)
		change(&x)
		trees[s] = x
	}
	deep := api.Term{Kind: api.TermNumber}
	for range 40 {
		deep = api.Term{Kind: api.TermUnary, Text: "-", Kids: []api.Term{deep}}
	}
	trees["deep"] = parsed(t, in("1;"))
	trees["deep"].Kids[0].Kids[0].Kids[0].Kids[0] = deep
	for name, x := range trees {
		if rill.Check(x) == api.OK {
			t.Errorf("%.100s: may be", name)
		}
		for _, fuel := range []int{-1, 0, 1000, api.MaxFuel, api.MaxFuel + 1} {
			if got := run(x, fuel, nil); got.String() != "0 error 280" {
				t.Errorf("%.100s, fuel %d: %s", name, fuel, got)
			}
			if n, e := mean.Run(x, fuel, nil); n != 0 || e != api.ErrMeanTree {
				t.Errorf("%.100s, fuel %d, nobody outside: %d, %d", name, fuel, n, e)
			}
		}
	}
}
