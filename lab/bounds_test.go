package lab_test

import (
	"fmt"
	"slices"
	"strings"
	"testing"
)

// again is a line so many times.
func again(n int, line string) string { return strings.Repeat(line+"\n", n) }

// times is the same as a list.
func times(n int, line string) []string { return slices.Repeat([]string{line}, n) }

// TestMostTicks: all runs together go on for 100000 ticks.
func TestMostTicks(t *testing.T) {
	head := decked(clockwork(1)) + "boot\nrun 0\nrun 40000\nnow\n"
	told := ran(t, head)
	if told[len(told)-1] != "now 40000" {
		t.Fatalf("the machine is not as the test wants it: %q", told)
	}
	wantRun(t, head+"run 100001\nrun 9223372036854775807\nrun 100000\nrun 100000\nrun 99999\nrun 0\nrun 100050\nrun 140000", append(told,
		"error 250", "error 250", "ok 0", "ok 0", "ok 0", "ok 0", "error 250", "error 250")...)
	spin := decked(clockwork(1)) + "boot\n"
	wantRun(t, spin+"run 100001\nrun 100000\nrun 1", "ok 2", "ok", "error 250", "ok 10", "ok 0")
	// Another machine has what is left, and no more.
	wantRun(t, spin+"run 60000\nboot\nrun 40001\nrun 40000\nrun 40001\nboot\nrun 1\nrun 0", "ok 2", "ok", "ok 10", "ok", "error 250", "ok 10", "error 250", "ok", "error 250", "ok 0")
	wantRun(t, spin+"save a\nrun 60000\nload a\nrun 40001\nrun 40000\nload a\nrun 1", "ok 2", "ok", "ok", "ok 10", "ok", "error 250", "ok 10", "ok", "error 250")
	wantRun(t, spin+"run 100000\n"+decked(quiet)+"run 1\nboot\nrun 1\nrun 0\nnow", "ok 2", "ok", "ok 10", "ok 1", "none", "ok", "error 250", "ok 0", "now 0")
}

// TestTicksFromNow: they are counted from the machine's Now on, not from the tick
// up to which it was run.
func TestTicksFromNow(t *testing.T) {
	head := decked(quiet) + "boot\nrun 1\nnow\nrun 1000\nrun 1001\nnow\n"
	told := []string{"ok 1", "ok", "ok 1", "now 1000", "ok 0", "ok 0", "now 1000001000"}
	// Two ticks went by, as the first run did, and the third: 99998 are left.
	wantRun(t, head+"run 1000100999\nrun 1000100998\nnow\nrun 2000000999\nrun 2000001000\nrun 2000001001", append(told,
		"error 250", "ok 0", "now 2000001000", "ok 0", "ok 0", "error 250")...)
	wantRun(t, head+"run 999999999\nrun 500000000\nrun 1000001001\nnow", append(told, "ok 0", "ok 0", "ok 0", "now 2000001000")...)
}

// said is a deck of a cell that reads the clock so many times, and halts; of
// another one that says nothing.
func said(n int) string {
	return strings.Replace(clockwork(1), strings.Repeat("\nclock r2", 10)+"\naddi r1, r1, -1\nbne r1, r0, top\nj 0\n", strings.Repeat("\nclock r2", n-1)+"\nhalt\n", 1)
}

// TestMostTraced: all traces together tell 20000 observations.
func TestMostTraced(t *testing.T) {
	head := decked(said(100)) + "boot\nrun 3000\n"
	told := ran(t, head+"trace 1")
	if told[2] != "ok 100" || told[3] != "trace 100" || len(told) != 104 {
		t.Fatalf("the machine is not as the test wants it: %.200q", told)
	}
	one := told[3:]
	want := append(told[:3:3], slices.Repeat(one, 200)...)
	wantRun(t, head+again(200, "trace 1")+"trace 1\ntrace 0\ntrace 2\ntrace 9\nboot\ntrace 1\nrun 3000\ntrace 1", append(want, "error 250", "error 250", "trace 0", "trace 0", "ok", "trace 0", "ok 100", "error 250")...)
	wantRun(t, head+again(199, "trace 0")+"trace 1\ntrace 1", append(want, "error 250")...)
	// What is refused counts nothing.
	s := head + again(199, "trace 1") + "boot\nrun 3000\nsave a\n" + decked(said(101)) + "boot\nrun 3000\ntrace 1\ntrace 0\nload a\ntrace 1\ntrace 1"
	want = append(told[:3:3], slices.Repeat(one, 199)...)
	want = append(want, "ok", "ok 100", "ok", "ok 2", "ok", "ok 101", "error 250", "error 250", "ok")
	wantRun(t, s, append(append(want, one...), "error 250")...)
}

// TestMostPeeked: 1024 bytes at once, as often as one likes.
func TestMostPeeked(t *testing.T) {
	head := decked(quiet) + "boot\n"
	bytes := "= 000000bc" + strings.Repeat("00", 1020)
	wantRun(t, head+again(20, "peek 1 00004000 1024"), append([]string{"ok 1", "ok"}, times(20, bytes)...)...)
	wantRun(t, head+"peek 1 00004000 1025\npeek 1 00004000 9223372036854775807\npeek 9 00004000 1025\npeek 1 00000000 1025\npeek 1 00000000 1024\npeek 9 00004000 1024",
		"ok 1", "ok", "error 250", "error 250", "error 250", "error 250", "error 210", "error 210")
	wantRun(t, decked(quiet)+"peek 1 00004000 1025", "ok 1", "none")
}

// TestMostHolds: 16 saves, loads and keeps together.
func TestMostHolds(t *testing.T) {
	head := decked(quiet) + "boot\n"
	for _, s := range []string{again(16, "save a"), again(16, "keep a"), "save a\n" + again(15, "load a"), "save a\nkeep a\n" + strings.Repeat("save b\nload a\nkeep b\nload b\n", 4)[:14*7]} {
		n := strings.Count(s, "\n")
		if n != 16 {
			t.Fatalf("%d lines", n)
		}
		want := append([]string{"ok 1", "ok"}, times(16, "ok")...)
		wantRun(t, head+s+"save c\nkeep c\nload c\npart 1 c\nsave a\nkeep a\nsave c", append(want, "error 250", "error 250", "none", "none", "error 250", "error 250", "error 250")...)
	}
	// What tells none counts nothing, nor do parts; another machine has what is left.
	wantRun(t, again(9, "save a")+again(9, "keep a")+again(9, "load a")+head+again(20, "load a")+again(20, "part 1 a")+again(15, "save a")+"boot\n"+decked(quiet)+"save a\nkeep a\nload z\nload a\nload a\nkeep z\nsave z",
		slices.Concat(times(27, "none"), []string{"ok 1", "ok"}, times(40, "none"), times(15, "ok"), []string{"ok", "ok 1", "none", "none", "none", "ok", "error 250", "error 250", "error 250"})...)
	// What is refused is not done.
	wantRun(t, head+again(15, "save a")+"keep a\nrun 1\nsave a\nkeep a\npart 1 a\nload a\nnow", slices.Concat([]string{"ok 1", "ok"}, times(16, "ok"), []string{"ok 1", "error 250", "error 250", "part 0", "error 250", "now 1000"})...)
	// Also where there is something to load, but no machine.
	wantRun(t, head+again(16, "save a")+decked(quiet)+"load a\nload b\nsave a", slices.Concat([]string{"ok 1", "ok"}, times(16, "ok"), []string{"ok 1", "error 250", "none", "none"})...)
}

// TestMostWork: digests and parts go through 1000000 observations together.
func TestMostWork(t *testing.T) {
	head := decked(clockwork(1000)) + "boot\nrun 38000\nkeep x\n"
	told := ran(t, head+"digest 1")
	if told[2] != "ok 10000" {
		t.Fatalf("the machine is not as the test wants it: %q", told)
	}
	sum := told[4]
	want := func(more ...string) []string { return append(told[:4:4], more...) }
	behind, refused := "digest 1\ndigest 0\ndigest 9\npart 1 x\npart 9 x\npart 1 y\n", []string{"error 250", "error 250", "error 250", "error 250", "error 250", "none"}
	for _, cell := range []int{0, 1} {
		wantRun(t, head+again(100, fmt.Sprint("digest ", cell))+behind, want(append(times(100, sum), refused...)...)...)
	}
	// A digest of a cell that observed nothing goes through all the same.
	wantRun(t, head+again(100, "digest 2")+behind, want(append(times(100, "digest 00000000"), refused...)...)...)
	wantRun(t, head+again(50, "part 1 x")+behind, want(append(times(50, "part -1"), refused...)...)...)
	wantRun(t, head+again(50, "part 3 x")+behind, want(append(times(50, "part -1"), refused...)...)...)
	// What is refused counts nothing.
	wantRun(t, head+again(49, "part 1 x")+"digest 1\npart 1 x\ndigest 1\ndigest 1", want(append(times(49, "part -1"), sum, "error 250", sum, "error 250")...)...)
	// Both that were seen and those that were kept count; none cost nothing.
	wantRun(t, head+again(99, "digest 1")+"boot\npart 1 x\nkeep y\ndigest 0\npart 1 y\npart 1 x", want(append(times(99, sum), "ok", "part 0", "ok", "digest 00000000", "part -1", "error 250")...)...)
	wantRun(t, decked(clockwork(1000))+"boot\nkeep y\nrun 38000\n"+again(100, "part 1 y")+"part 1 y\ndigest 1", append([]string{"ok 2", "ok", "ok", "ok 10000"}, append(times(100, "part 0"), "error 250", "error 250")...)...)
	// One more is too much.
	wantRun(t, head+again(100, "digest 1")+decked(quiet)+"boot\nkeep z\nrun 1\ndigest 1\npart 1 z\nload a", want(append(times(100, sum), "ok 1", "ok", "ok", "ok 1", "error 250", "error 250", "none")...)...)
	// A trace is none of these.
	s := ran(t, head+again(100, "digest 1")+"trace 2\ntrace 1\nnow")
	if len(s) != 4+100+1+10001+1 || s[104] != "trace 0" || s[105] != "trace 10000" || s[len(s)-1] == "none" {
		t.Errorf("behind much work %d lines are told", len(s))
	}
}
